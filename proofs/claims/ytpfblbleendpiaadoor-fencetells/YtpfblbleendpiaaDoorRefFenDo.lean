/-
  What must be walked anew by an instruction, as the document's own call answers (Do of the reference): the three fences, walked whole.
-/
import Derived.Test.YtpfblbleendpiaaDoorRefFen
import Derived.Test.YtpfblbleendpiaaDoorRefTl3
import Derived.Test.YtpfblbleendpiaaDoorRefCsr2
import Derived.Deep.Cut
namespace Go.Proofs.YtpfblbleendpiaaDoor
open Go.RowKit
/-- What is named by a register. -/
def aD (S : StM) (op rs1 : Int) : Int := if 0 < rs1 ∧ rs1 < 32 then (if op = 65 then S.X rs1.toNat / 64 % 256 else S.X rs1.toNat / 256 % 256) else -1
def bD (S : StM) (rs2 : Int) : Int := if 0 < rs2 ∧ rs2 < 32 then S.X rs2.toNat % 256 else -1
theorem st_x {w : World} {b : Nat} {S : StM} (h : StAt w b S) {i : Nat} (hi : i < 32) : w.cell? ⟨b, i, none⟩ = some (.int .u64 (S.X i)) := by
  rw [World.rowIs.cell h (by omega)]
  unfold stF
  rw [if_pos hi]
def inA (op rd rs1 rs2 imm csr : Int) : Array Value := #[.int .i64 op, .int .i64 rd, .int .i64 rs1, .int .i64 rs2, .int .i64 imm, .int .i64 csr]
section
variable {w : World} {b : Nat} {T : Nat → EntM} {S : StM}
set_option maxRecDepth 10000 in
set_option maxHeartbeats 16000000 in
theorem rdo_fence (ht : TlAt w b T) (hS : S.Ok) (rd rs1 rs2 imm csr : Int) :
    Calls Tryd.prog 13 #[.pointer (some ⟨b, 0, none⟩), .agg (rowOf 65 (stF S)), .agg (inA 63 rd rs1 rs2 imm csr)] w fun r w' => r = .returned (.int .i64 (cntT (sfeB S S.v (aD S 63 rs1) (bD S rs2)) T : Nat)) ∧ TlAt w' b (wipeT (sfeB S S.v (aD S 63 rs1) (bD S rs2)) T) ∧ Only (fun i => i = b) w w' := by
  obtain ⟨A, hA⟩ : ∃ A, aD S 63 rs1 = A := ⟨_, rfl⟩
  obtain ⟨B, hB⟩ : ∃ B, bD S rs2 = B := ⟨_, rfl⟩
  rw [hA, hB]
  have s0 := st_new w S
  have n1 : (w.alloc (.cells (rowOf 65 (stF S)) 27)).heap.size = w.heap.size + 1 := Go.Deep.nblk_alloc _ _
  have i0 := alloc_last (w.alloc (.cells (rowOf 65 (stF S)) 27)) (inA 63 rd rs1 rs2 imm csr) 29
  rw [n1] at i0
  have s1 : StAt ((w.alloc (.cells (rowOf 65 (stF S)) 27)).alloc (.cells (inA 63 rd rs1 rs2 imm csr) 29)) w.heap.size S := World.rowIs.of_block s0 (((Only.refl (fun _ => False) (w.alloc (.cells (rowOf 65 (stF S)) 27))).alloc _).same _ (World.rowIs.lt s0) id)
  have kb : Kept w ((w.alloc (.cells (rowOf 65 (stF S)) 27)).alloc (.cells (inA 63 rd rs1 rs2 imm csr) 29)) := ((Only.refl _ w).alloc _).alloc _
  clear s0 n1
  go_enter Tryd.func13, Tryd.ntmps13
  go_upto_region 2 with fail
  generalize ((w.alloc (.cells (rowOf 65 (stF S)) 27)).alloc (.cells (inA 63 rd rs1 rs2 imm csr) 29)) = w1 at i0 s1 kb ⊢
  have c0 : _ = some (Value.int .i64 63) := Blk.cell i0 0
  have c2 : _ = some (Value.int .i64 rs1) := Blk.cell i0 2
  have c3 : _ = some (Value.int .i64 rs2) := Blk.cell i0 3
  have cv := st_v s1
  by_cases p0 : 0 < rs1
  · by_cases p1 : rs1 < 32
    · obtain ⟨R, rfl⟩ := Int.eq_ofNat_of_zero_le (show 0 ≤ rs1 by omega)
      have cx := st_x s1 (i := R) (by omega)
      have u0 := (hS.X R (by omega)).1
      have e8 : bits .and .u64 (S.X R / 256) 255 = S.X R / 256 % 256 := u_low (S.X R / 256) 8 (by omega) 255 rfl
      have l0 : 0 ≤ S.X R / 256 % 256 := by omega
      have l1 : S.X R / 256 % 256 < 256 := by omega
      have haA : A = S.X R / 256 % 256 := by rw [← hA]; unfold aD; rw [if_pos ⟨p0, p1⟩, if_neg (by decide), Int.toNat_natCast]
      subst haA
      clear hA
      by_cases o0 : 0 < rs2
      · by_cases o1 : rs2 < 32
        · obtain ⟨R2, rfl⟩ := Int.eq_ofNat_of_zero_le (show 0 ≤ rs2 by omega)
          have dx := st_x s1 (i := R2) (by omega)
          have u1 := (hS.X R2 (by omega)).1
          have f8 : bits .and .u64 (S.X R2) 255 = S.X R2 % 256 := u_low (S.X R2) 8 (by omega) 255 rfl
          have m0 : 0 ≤ S.X R2 % 256 := by omega
          have m1 : S.X R2 % 256 < 256 := by omega
          have haB : B = S.X R2 % 256 := by rw [← hB]; unfold bD; rw [if_pos ⟨o0, o1⟩, Int.toNat_natCast]
          subst haB
          clear hB
          go_wp2_with (first | (refine wpList_load_is (by rfl) 27 _ rfl rfl s1 _ Tryd.underlying27 rfl st_size ?_) | (go_at_call 8; refine (rsfence_any (ht.kept kb) hS _ _ _).mono ?_; rintro r w2 ⟨rfl, hT2, k2⟩))
          go_ret
          exact ⟨rfl, hT2, kb.then k2⟩
        · have haB : B = -1 := by rw [← hB]; unfold bD; rw [if_neg (fun x => o1 x.2)]
          subst haB
          clear hB
          go_wp2_with (first | (refine wpList_load_is (by rfl) 27 _ rfl rfl s1 _ Tryd.underlying27 rfl st_size ?_) | (go_at_call 8; refine (rsfence_any (ht.kept kb) hS _ _ _).mono ?_; rintro r w2 ⟨rfl, hT2, k2⟩))
          go_ret
          exact ⟨rfl, hT2, kb.then k2⟩
      · have haB : B = -1 := by rw [← hB]; unfold bD; rw [if_neg (fun x => o0 x.1)]
        subst haB
        clear hB
        go_wp2_with (first | (refine wpList_load_is (by rfl) 27 _ rfl rfl s1 _ Tryd.underlying27 rfl st_size ?_) | (go_at_call 8; refine (rsfence_any (ht.kept kb) hS _ _ _).mono ?_; rintro r w2 ⟨rfl, hT2, k2⟩))
        go_ret
        exact ⟨rfl, hT2, kb.then k2⟩
    · have haA : A = -1 := by rw [← hA]; unfold aD; rw [if_neg (fun x => p1 x.2)]
      subst haA
      clear hA
      by_cases o0 : 0 < rs2
      · by_cases o1 : rs2 < 32
        · obtain ⟨R2, rfl⟩ := Int.eq_ofNat_of_zero_le (show 0 ≤ rs2 by omega)
          have dx := st_x s1 (i := R2) (by omega)
          have u1 := (hS.X R2 (by omega)).1
          have f8 : bits .and .u64 (S.X R2) 255 = S.X R2 % 256 := u_low (S.X R2) 8 (by omega) 255 rfl
          have m0 : 0 ≤ S.X R2 % 256 := by omega
          have m1 : S.X R2 % 256 < 256 := by omega
          have haB : B = S.X R2 % 256 := by rw [← hB]; unfold bD; rw [if_pos ⟨o0, o1⟩, Int.toNat_natCast]
          subst haB
          clear hB
          go_wp2_with (first | (refine wpList_load_is (by rfl) 27 _ rfl rfl s1 _ Tryd.underlying27 rfl st_size ?_) | (go_at_call 8; refine (rsfence_any (ht.kept kb) hS _ _ _).mono ?_; rintro r w2 ⟨rfl, hT2, k2⟩))
          go_ret
          exact ⟨rfl, hT2, kb.then k2⟩
        · have haB : B = -1 := by rw [← hB]; unfold bD; rw [if_neg (fun x => o1 x.2)]
          subst haB
          clear hB
          go_wp2_with (first | (refine wpList_load_is (by rfl) 27 _ rfl rfl s1 _ Tryd.underlying27 rfl st_size ?_) | (go_at_call 8; refine (rsfence_any (ht.kept kb) hS _ _ _).mono ?_; rintro r w2 ⟨rfl, hT2, k2⟩))
          go_ret
          exact ⟨rfl, hT2, kb.then k2⟩
      · have haB : B = -1 := by rw [← hB]; unfold bD; rw [if_neg (fun x => o0 x.1)]
        subst haB
        clear hB
        go_wp2_with (first | (refine wpList_load_is (by rfl) 27 _ rfl rfl s1 _ Tryd.underlying27 rfl st_size ?_) | (go_at_call 8; refine (rsfence_any (ht.kept kb) hS _ _ _).mono ?_; rintro r w2 ⟨rfl, hT2, k2⟩))
        go_ret
        exact ⟨rfl, hT2, kb.then k2⟩
  · have haA : A = -1 := by rw [← hA]; unfold aD; rw [if_neg (fun x => p0 x.1)]
    subst haA
    clear hA
    by_cases o0 : 0 < rs2
    · by_cases o1 : rs2 < 32
      · obtain ⟨R2, rfl⟩ := Int.eq_ofNat_of_zero_le (show 0 ≤ rs2 by omega)
        have dx := st_x s1 (i := R2) (by omega)
        have u1 := (hS.X R2 (by omega)).1
        have f8 : bits .and .u64 (S.X R2) 255 = S.X R2 % 256 := u_low (S.X R2) 8 (by omega) 255 rfl
        have m0 : 0 ≤ S.X R2 % 256 := by omega
        have m1 : S.X R2 % 256 < 256 := by omega
        have haB : B = S.X R2 % 256 := by rw [← hB]; unfold bD; rw [if_pos ⟨o0, o1⟩, Int.toNat_natCast]
        subst haB
        clear hB
        go_wp2_with (first | (refine wpList_load_is (by rfl) 27 _ rfl rfl s1 _ Tryd.underlying27 rfl st_size ?_) | (go_at_call 8; refine (rsfence_any (ht.kept kb) hS _ _ _).mono ?_; rintro r w2 ⟨rfl, hT2, k2⟩))
        go_ret
        exact ⟨rfl, hT2, kb.then k2⟩
      · have haB : B = -1 := by rw [← hB]; unfold bD; rw [if_neg (fun x => o1 x.2)]
        subst haB
        clear hB
        go_wp2_with (first | (refine wpList_load_is (by rfl) 27 _ rfl rfl s1 _ Tryd.underlying27 rfl st_size ?_) | (go_at_call 8; refine (rsfence_any (ht.kept kb) hS _ _ _).mono ?_; rintro r w2 ⟨rfl, hT2, k2⟩))
        go_ret
        exact ⟨rfl, hT2, kb.then k2⟩
    · have haB : B = -1 := by rw [← hB]; unfold bD; rw [if_neg (fun x => o0 x.1)]
      subst haB
      clear hB
      go_wp2_with (first | (refine wpList_load_is (by rfl) 27 _ rfl rfl s1 _ Tryd.underlying27 rfl st_size ?_) | (go_at_call 8; refine (rsfence_any (ht.kept kb) hS _ _ _).mono ?_; rintro r w2 ⟨rfl, hT2, k2⟩))
      go_ret
      exact ⟨rfl, hT2, kb.then k2⟩
set_option maxRecDepth 10000 in
set_option maxHeartbeats 16000000 in
theorem rdo_guest (ht : TlAt w b T) (hS : S.Ok) (rd rs1 rs2 imm csr : Int) :
    Calls Tryd.prog 13 #[.pointer (some ⟨b, 0, none⟩), .agg (rowOf 65 (stF S)), .agg (inA 64 rd rs1 rs2 imm csr)] w fun r w' => r = .returned (.int .i64 (cntT (sfeB S true (aD S 64 rs1) (bD S rs2)) T : Nat)) ∧ TlAt w' b (wipeT (sfeB S true (aD S 64 rs1) (bD S rs2)) T) ∧ Only (fun i => i = b) w w' := by
  obtain ⟨A, hA⟩ : ∃ A, aD S 64 rs1 = A := ⟨_, rfl⟩
  obtain ⟨B, hB⟩ : ∃ B, bD S rs2 = B := ⟨_, rfl⟩
  rw [hA, hB]
  have s0 := st_new w S
  have n1 : (w.alloc (.cells (rowOf 65 (stF S)) 27)).heap.size = w.heap.size + 1 := Go.Deep.nblk_alloc _ _
  have i0 := alloc_last (w.alloc (.cells (rowOf 65 (stF S)) 27)) (inA 64 rd rs1 rs2 imm csr) 29
  rw [n1] at i0
  have s1 : StAt ((w.alloc (.cells (rowOf 65 (stF S)) 27)).alloc (.cells (inA 64 rd rs1 rs2 imm csr) 29)) w.heap.size S := World.rowIs.of_block s0 (((Only.refl (fun _ => False) (w.alloc (.cells (rowOf 65 (stF S)) 27))).alloc _).same _ (World.rowIs.lt s0) id)
  have kb : Kept w ((w.alloc (.cells (rowOf 65 (stF S)) 27)).alloc (.cells (inA 64 rd rs1 rs2 imm csr) 29)) := ((Only.refl _ w).alloc _).alloc _
  clear s0 n1
  go_enter Tryd.func13, Tryd.ntmps13
  go_upto_region 2 with fail
  generalize ((w.alloc (.cells (rowOf 65 (stF S)) 27)).alloc (.cells (inA 64 rd rs1 rs2 imm csr) 29)) = w1 at i0 s1 kb ⊢
  have c0 : _ = some (Value.int .i64 64) := Blk.cell i0 0
  have c2 : _ = some (Value.int .i64 rs1) := Blk.cell i0 2
  have c3 : _ = some (Value.int .i64 rs2) := Blk.cell i0 3
  have cv := st_v s1
  by_cases p0 : 0 < rs1
  · by_cases p1 : rs1 < 32
    · obtain ⟨R, rfl⟩ := Int.eq_ofNat_of_zero_le (show 0 ≤ rs1 by omega)
      have cx := st_x s1 (i := R) (by omega)
      have u0 := (hS.X R (by omega)).1
      have e8 : bits .and .u64 (S.X R / 256) 255 = S.X R / 256 % 256 := u_low (S.X R / 256) 8 (by omega) 255 rfl
      have l0 : 0 ≤ S.X R / 256 % 256 := by omega
      have l1 : S.X R / 256 % 256 < 256 := by omega
      have haA : A = S.X R / 256 % 256 := by rw [← hA]; unfold aD; rw [if_pos ⟨p0, p1⟩, if_neg (by decide), Int.toNat_natCast]
      subst haA
      clear hA
      by_cases o0 : 0 < rs2
      · by_cases o1 : rs2 < 32
        · obtain ⟨R2, rfl⟩ := Int.eq_ofNat_of_zero_le (show 0 ≤ rs2 by omega)
          have dx := st_x s1 (i := R2) (by omega)
          have u1 := (hS.X R2 (by omega)).1
          have f8 : bits .and .u64 (S.X R2) 255 = S.X R2 % 256 := u_low (S.X R2) 8 (by omega) 255 rfl
          have m0 : 0 ≤ S.X R2 % 256 := by omega
          have m1 : S.X R2 % 256 < 256 := by omega
          have haB : B = S.X R2 % 256 := by rw [← hB]; unfold bD; rw [if_pos ⟨o0, o1⟩, Int.toNat_natCast]
          subst haB
          clear hB
          go_wp2_with (first | (refine wpList_load_is (by rfl) 27 _ rfl rfl s1 _ Tryd.underlying27 rfl st_size ?_) | (go_at_call 8; refine (rsfence_any (ht.kept kb) hS _ _ _).mono ?_; rintro r w2 ⟨rfl, hT2, k2⟩))
          go_ret
          exact ⟨rfl, hT2, kb.then k2⟩
        · have haB : B = -1 := by rw [← hB]; unfold bD; rw [if_neg (fun x => o1 x.2)]
          subst haB
          clear hB
          go_wp2_with (first | (refine wpList_load_is (by rfl) 27 _ rfl rfl s1 _ Tryd.underlying27 rfl st_size ?_) | (go_at_call 8; refine (rsfence_any (ht.kept kb) hS _ _ _).mono ?_; rintro r w2 ⟨rfl, hT2, k2⟩))
          go_ret
          exact ⟨rfl, hT2, kb.then k2⟩
      · have haB : B = -1 := by rw [← hB]; unfold bD; rw [if_neg (fun x => o0 x.1)]
        subst haB
        clear hB
        go_wp2_with (first | (refine wpList_load_is (by rfl) 27 _ rfl rfl s1 _ Tryd.underlying27 rfl st_size ?_) | (go_at_call 8; refine (rsfence_any (ht.kept kb) hS _ _ _).mono ?_; rintro r w2 ⟨rfl, hT2, k2⟩))
        go_ret
        exact ⟨rfl, hT2, kb.then k2⟩
    · have haA : A = -1 := by rw [← hA]; unfold aD; rw [if_neg (fun x => p1 x.2)]
      subst haA
      clear hA
      by_cases o0 : 0 < rs2
      · by_cases o1 : rs2 < 32
        · obtain ⟨R2, rfl⟩ := Int.eq_ofNat_of_zero_le (show 0 ≤ rs2 by omega)
          have dx := st_x s1 (i := R2) (by omega)
          have u1 := (hS.X R2 (by omega)).1
          have f8 : bits .and .u64 (S.X R2) 255 = S.X R2 % 256 := u_low (S.X R2) 8 (by omega) 255 rfl
          have m0 : 0 ≤ S.X R2 % 256 := by omega
          have m1 : S.X R2 % 256 < 256 := by omega
          have haB : B = S.X R2 % 256 := by rw [← hB]; unfold bD; rw [if_pos ⟨o0, o1⟩, Int.toNat_natCast]
          subst haB
          clear hB
          go_wp2_with (first | (refine wpList_load_is (by rfl) 27 _ rfl rfl s1 _ Tryd.underlying27 rfl st_size ?_) | (go_at_call 8; refine (rsfence_any (ht.kept kb) hS _ _ _).mono ?_; rintro r w2 ⟨rfl, hT2, k2⟩))
          go_ret
          exact ⟨rfl, hT2, kb.then k2⟩
        · have haB : B = -1 := by rw [← hB]; unfold bD; rw [if_neg (fun x => o1 x.2)]
          subst haB
          clear hB
          go_wp2_with (first | (refine wpList_load_is (by rfl) 27 _ rfl rfl s1 _ Tryd.underlying27 rfl st_size ?_) | (go_at_call 8; refine (rsfence_any (ht.kept kb) hS _ _ _).mono ?_; rintro r w2 ⟨rfl, hT2, k2⟩))
          go_ret
          exact ⟨rfl, hT2, kb.then k2⟩
      · have haB : B = -1 := by rw [← hB]; unfold bD; rw [if_neg (fun x => o0 x.1)]
        subst haB
        clear hB
        go_wp2_with (first | (refine wpList_load_is (by rfl) 27 _ rfl rfl s1 _ Tryd.underlying27 rfl st_size ?_) | (go_at_call 8; refine (rsfence_any (ht.kept kb) hS _ _ _).mono ?_; rintro r w2 ⟨rfl, hT2, k2⟩))
        go_ret
        exact ⟨rfl, hT2, kb.then k2⟩
  · have haA : A = -1 := by rw [← hA]; unfold aD; rw [if_neg (fun x => p0 x.1)]
    subst haA
    clear hA
    by_cases o0 : 0 < rs2
    · by_cases o1 : rs2 < 32
      · obtain ⟨R2, rfl⟩ := Int.eq_ofNat_of_zero_le (show 0 ≤ rs2 by omega)
        have dx := st_x s1 (i := R2) (by omega)
        have u1 := (hS.X R2 (by omega)).1
        have f8 : bits .and .u64 (S.X R2) 255 = S.X R2 % 256 := u_low (S.X R2) 8 (by omega) 255 rfl
        have m0 : 0 ≤ S.X R2 % 256 := by omega
        have m1 : S.X R2 % 256 < 256 := by omega
        have haB : B = S.X R2 % 256 := by rw [← hB]; unfold bD; rw [if_pos ⟨o0, o1⟩, Int.toNat_natCast]
        subst haB
        clear hB
        go_wp2_with (first | (refine wpList_load_is (by rfl) 27 _ rfl rfl s1 _ Tryd.underlying27 rfl st_size ?_) | (go_at_call 8; refine (rsfence_any (ht.kept kb) hS _ _ _).mono ?_; rintro r w2 ⟨rfl, hT2, k2⟩))
        go_ret
        exact ⟨rfl, hT2, kb.then k2⟩
      · have haB : B = -1 := by rw [← hB]; unfold bD; rw [if_neg (fun x => o1 x.2)]
        subst haB
        clear hB
        go_wp2_with (first | (refine wpList_load_is (by rfl) 27 _ rfl rfl s1 _ Tryd.underlying27 rfl st_size ?_) | (go_at_call 8; refine (rsfence_any (ht.kept kb) hS _ _ _).mono ?_; rintro r w2 ⟨rfl, hT2, k2⟩))
        go_ret
        exact ⟨rfl, hT2, kb.then k2⟩
    · have haB : B = -1 := by rw [← hB]; unfold bD; rw [if_neg (fun x => o0 x.1)]
      subst haB
      clear hB
      go_wp2_with (first | (refine wpList_load_is (by rfl) 27 _ rfl rfl s1 _ Tryd.underlying27 rfl st_size ?_) | (go_at_call 8; refine (rsfence_any (ht.kept kb) hS _ _ _).mono ?_; rintro r w2 ⟨rfl, hT2, k2⟩))
      go_ret
      exact ⟨rfl, hT2, kb.then k2⟩
set_option maxRecDepth 10000 in
set_option maxHeartbeats 16000000 in
theorem rdo_host (ht : TlAt w b T) (hS : S.Ok) (rd rs1 rs2 imm csr : Int) :
    Calls Tryd.prog 13 #[.pointer (some ⟨b, 0, none⟩), .agg (rowOf 65 (stF S)), .agg (inA 65 rd rs1 rs2 imm csr)] w fun r w' => r = .returned (.int .i64 (cntT (hosB (aD S 65 rs1) (bD S rs2)) T : Nat)) ∧ TlAt w' b (wipeT (hosB (aD S 65 rs1) (bD S rs2)) T) ∧ Only (fun i => i = b) w w' := by
  obtain ⟨A, hA⟩ : ∃ A, aD S 65 rs1 = A := ⟨_, rfl⟩
  obtain ⟨B, hB⟩ : ∃ B, bD S rs2 = B := ⟨_, rfl⟩
  rw [hA, hB]
  have s0 := st_new w S
  have n1 : (w.alloc (.cells (rowOf 65 (stF S)) 27)).heap.size = w.heap.size + 1 := Go.Deep.nblk_alloc _ _
  have i0 := alloc_last (w.alloc (.cells (rowOf 65 (stF S)) 27)) (inA 65 rd rs1 rs2 imm csr) 29
  rw [n1] at i0
  have s1 : StAt ((w.alloc (.cells (rowOf 65 (stF S)) 27)).alloc (.cells (inA 65 rd rs1 rs2 imm csr) 29)) w.heap.size S := World.rowIs.of_block s0 (((Only.refl (fun _ => False) (w.alloc (.cells (rowOf 65 (stF S)) 27))).alloc _).same _ (World.rowIs.lt s0) id)
  have kb : Kept w ((w.alloc (.cells (rowOf 65 (stF S)) 27)).alloc (.cells (inA 65 rd rs1 rs2 imm csr) 29)) := ((Only.refl _ w).alloc _).alloc _
  clear s0 n1
  go_enter Tryd.func13, Tryd.ntmps13
  go_upto_region 2 with fail
  generalize ((w.alloc (.cells (rowOf 65 (stF S)) 27)).alloc (.cells (inA 65 rd rs1 rs2 imm csr) 29)) = w1 at i0 s1 kb ⊢
  have c0 : _ = some (Value.int .i64 65) := Blk.cell i0 0
  have c2 : _ = some (Value.int .i64 rs1) := Blk.cell i0 2
  have c3 : _ = some (Value.int .i64 rs2) := Blk.cell i0 3
  have cv := st_v s1
  by_cases p0 : 0 < rs1
  · by_cases p1 : rs1 < 32
    · obtain ⟨R, rfl⟩ := Int.eq_ofNat_of_zero_le (show 0 ≤ rs1 by omega)
      have cx := st_x s1 (i := R) (by omega)
      have u0 := (hS.X R (by omega)).1
      have e8 : bits .and .u64 (S.X R / 64) 255 = S.X R / 64 % 256 := u_low (S.X R / 64) 8 (by omega) 255 rfl
      have e9 : bits .and .u64 (S.X R / 256) 255 = S.X R / 256 % 256 := u_low (S.X R / 256) 8 (by omega) 255 rfl
      have l2 : 0 ≤ S.X R / 256 % 256 := by omega
      have l3 : S.X R / 256 % 256 < 256 := by omega
      have l0 : 0 ≤ S.X R / 64 % 256 := by omega
      have l1 : S.X R / 64 % 256 < 256 := by omega
      have haA : A = S.X R / 64 % 256 := by rw [← hA]; unfold aD; rw [if_pos ⟨p0, p1⟩, if_pos rfl, Int.toNat_natCast]
      subst haA
      clear hA
      by_cases o0 : 0 < rs2
      · by_cases o1 : rs2 < 32
        · obtain ⟨R2, rfl⟩ := Int.eq_ofNat_of_zero_le (show 0 ≤ rs2 by omega)
          have dx := st_x s1 (i := R2) (by omega)
          have u1 := (hS.X R2 (by omega)).1
          have f8 : bits .and .u64 (S.X R2) 255 = S.X R2 % 256 := u_low (S.X R2) 8 (by omega) 255 rfl
          have m0 : 0 ≤ S.X R2 % 256 := by omega
          have m1 : S.X R2 % 256 < 256 := by omega
          have haB : B = S.X R2 % 256 := by rw [← hB]; unfold bD; rw [if_pos ⟨o0, o1⟩, Int.toNat_natCast]
          subst haB
          clear hB
          go_wp2_with (first | (refine wpList_load_is (by rfl) 27 _ rfl rfl s1 _ Tryd.underlying27 rfl st_size ?_) | (go_at_call 11; refine (rhost_any (ht.kept kb) _ _).mono ?_; rintro r w2 ⟨rfl, hT2, k2⟩))
          go_ret
          exact ⟨rfl, hT2, kb.then k2⟩
        · have haB : B = -1 := by rw [← hB]; unfold bD; rw [if_neg (fun x => o1 x.2)]
          subst haB
          clear hB
          go_wp2_with (first | (refine wpList_load_is (by rfl) 27 _ rfl rfl s1 _ Tryd.underlying27 rfl st_size ?_) | (go_at_call 11; refine (rhost_any (ht.kept kb) _ _).mono ?_; rintro r w2 ⟨rfl, hT2, k2⟩))
          go_ret
          exact ⟨rfl, hT2, kb.then k2⟩
      · have haB : B = -1 := by rw [← hB]; unfold bD; rw [if_neg (fun x => o0 x.1)]
        subst haB
        clear hB
        go_wp2_with (first | (refine wpList_load_is (by rfl) 27 _ rfl rfl s1 _ Tryd.underlying27 rfl st_size ?_) | (go_at_call 11; refine (rhost_any (ht.kept kb) _ _).mono ?_; rintro r w2 ⟨rfl, hT2, k2⟩))
        go_ret
        exact ⟨rfl, hT2, kb.then k2⟩
    · have haA : A = -1 := by rw [← hA]; unfold aD; rw [if_neg (fun x => p1 x.2)]
      subst haA
      clear hA
      by_cases o0 : 0 < rs2
      · by_cases o1 : rs2 < 32
        · obtain ⟨R2, rfl⟩ := Int.eq_ofNat_of_zero_le (show 0 ≤ rs2 by omega)
          have dx := st_x s1 (i := R2) (by omega)
          have u1 := (hS.X R2 (by omega)).1
          have f8 : bits .and .u64 (S.X R2) 255 = S.X R2 % 256 := u_low (S.X R2) 8 (by omega) 255 rfl
          have m0 : 0 ≤ S.X R2 % 256 := by omega
          have m1 : S.X R2 % 256 < 256 := by omega
          have haB : B = S.X R2 % 256 := by rw [← hB]; unfold bD; rw [if_pos ⟨o0, o1⟩, Int.toNat_natCast]
          subst haB
          clear hB
          go_wp2_with (first | (refine wpList_load_is (by rfl) 27 _ rfl rfl s1 _ Tryd.underlying27 rfl st_size ?_) | (go_at_call 11; refine (rhost_any (ht.kept kb) _ _).mono ?_; rintro r w2 ⟨rfl, hT2, k2⟩))
          go_ret
          exact ⟨rfl, hT2, kb.then k2⟩
        · have haB : B = -1 := by rw [← hB]; unfold bD; rw [if_neg (fun x => o1 x.2)]
          subst haB
          clear hB
          go_wp2_with (first | (refine wpList_load_is (by rfl) 27 _ rfl rfl s1 _ Tryd.underlying27 rfl st_size ?_) | (go_at_call 11; refine (rhost_any (ht.kept kb) _ _).mono ?_; rintro r w2 ⟨rfl, hT2, k2⟩))
          go_ret
          exact ⟨rfl, hT2, kb.then k2⟩
      · have haB : B = -1 := by rw [← hB]; unfold bD; rw [if_neg (fun x => o0 x.1)]
        subst haB
        clear hB
        go_wp2_with (first | (refine wpList_load_is (by rfl) 27 _ rfl rfl s1 _ Tryd.underlying27 rfl st_size ?_) | (go_at_call 11; refine (rhost_any (ht.kept kb) _ _).mono ?_; rintro r w2 ⟨rfl, hT2, k2⟩))
        go_ret
        exact ⟨rfl, hT2, kb.then k2⟩
  · have haA : A = -1 := by rw [← hA]; unfold aD; rw [if_neg (fun x => p0 x.1)]
    subst haA
    clear hA
    by_cases o0 : 0 < rs2
    · by_cases o1 : rs2 < 32
      · obtain ⟨R2, rfl⟩ := Int.eq_ofNat_of_zero_le (show 0 ≤ rs2 by omega)
        have dx := st_x s1 (i := R2) (by omega)
        have u1 := (hS.X R2 (by omega)).1
        have f8 : bits .and .u64 (S.X R2) 255 = S.X R2 % 256 := u_low (S.X R2) 8 (by omega) 255 rfl
        have m0 : 0 ≤ S.X R2 % 256 := by omega
        have m1 : S.X R2 % 256 < 256 := by omega
        have haB : B = S.X R2 % 256 := by rw [← hB]; unfold bD; rw [if_pos ⟨o0, o1⟩, Int.toNat_natCast]
        subst haB
        clear hB
        go_wp2_with (first | (refine wpList_load_is (by rfl) 27 _ rfl rfl s1 _ Tryd.underlying27 rfl st_size ?_) | (go_at_call 11; refine (rhost_any (ht.kept kb) _ _).mono ?_; rintro r w2 ⟨rfl, hT2, k2⟩))
        go_ret
        exact ⟨rfl, hT2, kb.then k2⟩
      · have haB : B = -1 := by rw [← hB]; unfold bD; rw [if_neg (fun x => o1 x.2)]
        subst haB
        clear hB
        go_wp2_with (first | (refine wpList_load_is (by rfl) 27 _ rfl rfl s1 _ Tryd.underlying27 rfl st_size ?_) | (go_at_call 11; refine (rhost_any (ht.kept kb) _ _).mono ?_; rintro r w2 ⟨rfl, hT2, k2⟩))
        go_ret
        exact ⟨rfl, hT2, kb.then k2⟩
    · have haB : B = -1 := by rw [← hB]; unfold bD; rw [if_neg (fun x => o0 x.1)]
      subst haB
      clear hB
      go_wp2_with (first | (refine wpList_load_is (by rfl) 27 _ rfl rfl s1 _ Tryd.underlying27 rfl st_size ?_) | (go_at_call 11; refine (rhost_any (ht.kept kb) _ _).mono ?_; rintro r w2 ⟨rfl, hT2, k2⟩))
      go_ret
      exact ⟨rfl, hT2, kb.then k2⟩
end
end Go.Proofs.YtpfblbleendpiaaDoor
