/-
  What package fence's calls answer: walked whole, for every argument.
-/
import Derived.Test.YtpfblbleendpiaaDoorTFenA
import Derived.Test.YtpfblbleendpiaaDoorTFenTab
import Derived.Test.YtpfblbleendpiaaDoorRefClean
namespace Go.Proofs.YtpfblbleendpiaaDoor
open Go.RowKit
theorem fnum_any (f d : Int) (hf : (f = 16 ∧ d = 65536) ∨ (f = 8 ∧ d = 256) ∨ (f = 6 ∧ d = 64) ∨ (f = 0 ∧ d = 1)) (v : Int) (hv : U v) (w : World) :
    Calls Tryd.prog 24 #[.int .u64 v, .int .u64 f] w fun e w' => e = .returned (.int .i64 (v / d % 256)) ∧ w' = w := by
  have u0 := hv.1
  have l0 : 0 ≤ v / d % 256 := by omega
  have l1 : v / d % 256 < 256 := by omega
  have e8 : bits .and .u64 (v / d) 255 = v / d % 256 := u_low (v / d) 8 (by rcases hf with ⟨_, rfl⟩ | ⟨_, rfl⟩ | ⟨_, rfl⟩ | ⟨_, rfl⟩ <;> omega) 255 rfl
  rcases hf with ⟨rfl, rfl⟩ | ⟨rfl, rfl⟩ | ⟨rfl, rfl⟩ | ⟨rfl, rfl⟩
  · go_enter Tryd.func24, Tryd.ntmps24
    go_wp2_with fail
    go_ret
    exact ⟨rfl, rfl⟩
  · go_enter Tryd.func24, Tryd.ntmps24
    go_wp2_with fail
    go_ret
    exact ⟨rfl, rfl⟩
  · go_enter Tryd.func24, Tryd.ntmps24
    go_wp2_with fail
    go_ret
    exact ⟨rfl, rfl⟩
  · rw [Int.ediv_one] at *
    go_enter Tryd.func24, Tryd.ntmps24
    go_wp2_with fail
    go_ret
    exact ⟨rfl, rfl⟩
section
variable {w : World} {b : Nat} {T : Nat → EntM} {S : StM}
set_option maxRecDepth 10000 in
set_option maxHeartbeats 2000000 in
theorem fguest_any (_ : Tab14 w) (ht : PTl w b T) (hI : InvG T) (hS : S.Ok) (page asid : Int) :
    Calls Tryd.prog 9 #[.pointer (some ⟨b, 0, none⟩), .agg (rowOf 65 (stF S)), .int .i64 page, .int .i64 asid] w fun r w' => r = .returned (.int .i64 (cntT (sfeB S true page asid) T : Nat)) ∧ PTl w' b (wipeT (sfeB S true page asid) T) ∧ Only (fun i => i = b) w w' := by
  have s0 := st_new w S
  have kb := (Only.refl (fun _ => False) w).alloc (.cells (rowOf 65 (stF S)) 27)
  rw [← nmd_sfe_t S]
  unfold vmI
  have u0 := hS.C 21 (by omega)
  have cx : _ = some (Value.int .u64 (S.C 21)) := s0.cell (i := 56) (by omega)
  generalize S.C 21 = v at *
  go_enter Tryd.func9, Tryd.ntmps9
  go_upto_region 1 with fail
  generalize w.alloc (.cells (rowOf 65 (stF S)) 27) = w1 at kb cx ⊢
  go_wp2_with (first | (go_at_call 24; refine (fnum_any 16 65536 (.inl ⟨rfl, rfl⟩) v u0 _).mono ?_; rintro e w2 ⟨rfl, rfl⟩) | (refine wpList_built rfl 54 _ rfl (nmdA true page asid (v / 65536 % 256) (-1)) (by kernel_rfl) ?_) | (go_at_call 22; refine (fdrop_any (ht.kept kb) hI _ _ _ _ _).mono ?_; rintro e w3 ⟨rfl, h3, k3⟩))
  go_ret
  exact ⟨rfl, h3, Kept.then kb k3⟩
set_option maxRecDepth 10000 in
set_option maxHeartbeats 2000000 in
theorem fsfence_any (hT : Tab14 w) (ht : PTl w b T) (hI : InvG T) (hS : S.Ok) (page asid : Int) :
    Calls Tryd.prog 7 #[.pointer (some ⟨b, 0, none⟩), .agg (rowOf 65 (stF S)), .int .i64 page, .int .i64 asid] w fun r w' => r = .returned (.int .i64 (cntT (sfeB S S.v page asid) T : Nat)) ∧ PTl w' b (wipeT (sfeB S S.v page asid) T) ∧ Only (fun i => i = b) w w' := by
  have s0 := st_new w S
  have kb := (Only.refl (fun _ => False) w).alloc (.cells (rowOf 65 (stF S)) 27)
  have cv := st_v s0
  cases hv : S.v
  · rw [hv] at cv
    rw [← nmd_sfe_f S]
    go_enter Tryd.func7, Tryd.ntmps7
    go_upto_region 1 with fail
    generalize w.alloc (.cells (rowOf 65 (stF S)) 27) = w1 at kb cv ⊢
    go_wp2_with (first | (refine wpList_built rfl 54 _ rfl (nmdA false page asid (-1) (-1)) (by kernel_rfl) ?_) | (go_at_call 22; refine (fdrop_any (ht.kept kb) hI _ _ _ _ _).mono ?_; rintro e w3 ⟨rfl, h3, k3⟩))
    go_ret
    exact ⟨rfl, h3, Kept.then kb k3⟩
  · rw [hv] at cv
    go_enter Tryd.func7, Tryd.ntmps7
    go_upto_region 1 with fail
    generalize w.alloc (.cells (rowOf 65 (stF S)) 27) = w1 at kb cv s0 ⊢
    go_wp2_with (first | (refine wpList_load_is (by rfl) 27 _ rfl rfl s0 _ Tryd.underlying27 rfl st_size ?_) | (go_at_call 9; refine (fguest_any (hT.kept kb) (ht.kept kb) hI hS _ _).mono ?_; rintro e w3 ⟨rfl, h3, k3⟩))
    go_ret
    exact ⟨rfl, h3, Kept.then kb k3⟩
set_option maxRecDepth 10000 in
set_option maxHeartbeats 2000000 in
theorem fhost_any (_ : Tab14 w) (ht : PTl w b T) (hI : InvG T) (_ : S.Ok) (frame vmid : Int) :
    Calls Tryd.prog 10 #[.pointer (some ⟨b, 0, none⟩), .agg (rowOf 65 (stF S)), .int .i64 frame, .int .i64 vmid] w fun r w' => r = .returned (.int .i64 (cntT (hosB frame vmid) T : Nat)) ∧ PTl w' b (wipeT (hosB frame vmid) T) ∧ Only (fun i => i = b) w w' := by
  have kb := (Only.refl (fun _ => False) w).alloc (.cells (rowOf 65 (stF S)) 27)
  rw [← nmd_hos]
  go_enter Tryd.func10, Tryd.ntmps10
  go_upto_region 1 with fail
  generalize w.alloc (.cells (rowOf 65 (stF S)) 27) = w1 at kb ⊢
  go_wp2_with (first | (refine wpList_built rfl 54 _ rfl (nmdA true (-1) (-1) vmid frame) (by kernel_rfl) ?_) | (go_at_call 22; refine (fdrop_any (ht.kept kb) hI _ _ _ _ _).mono ?_; rintro e w3 ⟨rfl, h3, k3⟩))
  go_ret
  exact ⟨rfl, h3, Kept.then kb k3⟩
end
end Go.Proofs.YtpfblbleendpiaaDoor
