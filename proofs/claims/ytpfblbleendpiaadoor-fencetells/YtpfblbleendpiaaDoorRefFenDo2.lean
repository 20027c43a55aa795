/-
  What must be walked anew by an instruction, as the document's own call answers (Do of the reference): where nothing goes.
-/
import Derived.Test.YtpfblbleendpiaaDoorRefFenDo
namespace Go.Proofs.YtpfblbleendpiaaDoor
open Go.RowKit
def wrB14 (op rs1 imm : Int) : Bool := (op == 54) || ((op == 57) || ((rs1 != 0) || (imm != 0)))
set_option maxHeartbeats 1000000 in
theorem rwrites14 (op rd rs1 rs2 imm csr : Int) (w : World) :
    Calls Tryd.prog 29 #[.agg (inA op rd rs1 rs2 imm csr)] w fun e w' => e = .returned (.bool (wrB14 op rs1 imm)) ∧ Kept w w' := by
  unfold wrB14 inA
  cases h1 : op == 54 <;> cases h2 : op == 57 <;> cases h3 : rs1 != 0 <;> cases h4 : imm != 0
  all_goals
    go_enter Tryd.func29, Tryd.ntmps29
    go_wp2
    go_ret
    exact ⟨rfl, (Only.refl _ w).alloc _⟩
theorem ins_size' (op rd rs1 rs2 imm csr : Int) : (Tryd.prog.info? 29).map (·.size) = some (inA op rd rs1 rs2 imm csr).size := by
  rw [show (inA op rd rs1 rs2 imm csr).size = 6 from rfl]
  kernel_rfl
section
variable {w : World} {b : Nat} {T : Nat → EntM} {S : StM}
set_option maxRecDepth 10000 in
set_option maxHeartbeats 16000000 in
theorem rdo_none_lo (ht : TlAt w b T) (hS : S.Ok) (op rd rs1 rs2 imm csr : Int) (n3 : (op == 63) = false) (n4 : (op == 64) = false) (n5 : (op == 65) = false) (hlo : op < 54) :
    Calls Tryd.prog 13 #[.pointer (some ⟨b, 0, none⟩), .agg (rowOf 65 (stF S)), .agg (inA op rd rs1 rs2 imm csr)] w fun r w' => r = .returned (.int .i64 0) ∧ TlAt w' b T ∧ Only (fun i => i = b) w w' := by
  have n65 : ¬ op = 65 := beq_eq_false_iff_ne.1 n5
  obtain ⟨A, hA⟩ : ∃ A, aD S op rs1 = A := ⟨_, rfl⟩
  obtain ⟨B, hB⟩ : ∃ B, bD S rs2 = B := ⟨_, rfl⟩
  have s0 := st_new w S
  have n1 : (w.alloc (.cells (rowOf 65 (stF S)) 27)).heap.size = w.heap.size + 1 := Go.Deep.nblk_alloc _ _
  have i0 := alloc_last (w.alloc (.cells (rowOf 65 (stF S)) 27)) (inA op rd rs1 rs2 imm csr) 29
  rw [n1] at i0
  have s1 : StAt ((w.alloc (.cells (rowOf 65 (stF S)) 27)).alloc (.cells (inA op rd rs1 rs2 imm csr) 29)) w.heap.size S := World.rowIs.of_block s0 (((Only.refl (fun _ => False) (w.alloc (.cells (rowOf 65 (stF S)) 27))).alloc _).same _ (World.rowIs.lt s0) id)
  have kb : Kept w ((w.alloc (.cells (rowOf 65 (stF S)) 27)).alloc (.cells (inA op rd rs1 rs2 imm csr) 29)) := ((Only.refl _ w).alloc _).alloc _
  clear s0 n1
  go_enter Tryd.func13, Tryd.ntmps13
  go_upto_region 2 with fail
  generalize ((w.alloc (.cells (rowOf 65 (stF S)) 27)).alloc (.cells (inA op rd rs1 rs2 imm csr) 29)) = w1 at i0 s1 kb ⊢
  have c0 : _ = some (Value.int .i64 op) := Blk.cell i0 0
  have c2 : _ = some (Value.int .i64 rs1) := Blk.cell i0 2
  have c3 : _ = some (Value.int .i64 rs2) := Blk.cell i0 3
  have cv := st_v s1
  have c5 : _ = some (Value.int .i64 csr) := Blk.cell i0 5
  by_cases p0 : 0 < rs1
  · by_cases p1 : rs1 < 32
    · obtain ⟨R, rfl⟩ := Int.eq_ofNat_of_zero_le (show 0 ≤ rs1 by omega)
      have cx := st_x s1 (i := R) (by omega)
      have u0 := (hS.X R (by omega)).1
      have e8 : bits .and .u64 (S.X R / 256) 255 = S.X R / 256 % 256 := u_low (S.X R / 256) 8 (by omega) 255 rfl
      have l0 : 0 ≤ S.X R / 256 % 256 := by omega
      have l1 : S.X R / 256 % 256 < 256 := by omega
      have haA : A = S.X R / 256 % 256 := by rw [← hA]; unfold aD; rw [if_pos ⟨p0, p1⟩, if_neg n65, Int.toNat_natCast]
      subst haA
      clear hA
      by_cases o0 : 0 < rs2
      · by_cases o1 : rs2 < 32
        · obtain ⟨R2, rfl⟩ := Int.eq_ofNat_of_zero_le (show 0 ≤ rs2 by omega)
          have dx := st_x s1 (i := R2) (by omega)
          have u1 := (hS.X R2 (by omega)).1
          have f8 : bits .and .u64 (S.X R2) 255 = S.X R2 % 256 := u_low (S.X R2) 8 (by omega) 255 rfl
          have m0 : 0 ≤ S.X R2 % 256 := by omega
          have m1 : S.X R2 % 256 < 256 := by omega
          have haB : B = S.X R2 % 256 := by rw [← hB]; unfold bD; rw [if_pos ⟨o0, o1⟩, Int.toNat_natCast]
          subst haB
          clear hB
          go_wp2_with fail
          have kx := kb
          go_ret
          exact ⟨rfl, ht.kept kx, kx.mono fun _ f => f.elim⟩
        · have haB : B = -1 := by rw [← hB]; unfold bD; rw [if_neg (fun x => o1 x.2)]
          subst haB
          clear hB
          go_wp2_with fail
          have kx := kb
          go_ret
          exact ⟨rfl, ht.kept kx, kx.mono fun _ f => f.elim⟩
      · have haB : B = -1 := by rw [← hB]; unfold bD; rw [if_neg (fun x => o0 x.1)]
        subst haB
        clear hB
        go_wp2_with fail
        have kx := kb
        go_ret
        exact ⟨rfl, ht.kept kx, kx.mono fun _ f => f.elim⟩
    · have haA : A = -1 := by rw [← hA]; unfold aD; rw [if_neg (fun x => p1 x.2)]
      subst haA
      clear hA
      by_cases o0 : 0 < rs2
      · by_cases o1 : rs2 < 32
        · obtain ⟨R2, rfl⟩ := Int.eq_ofNat_of_zero_le (show 0 ≤ rs2 by omega)
          have dx := st_x s1 (i := R2) (by omega)
          have u1 := (hS.X R2 (by omega)).1
          have f8 : bits .and .u64 (S.X R2) 255 = S.X R2 % 256 := u_low (S.X R2) 8 (by omega) 255 rfl
          have m0 : 0 ≤ S.X R2 % 256 := by omega
          have m1 : S.X R2 % 256 < 256 := by omega
          have haB : B = S.X R2 % 256 := by rw [← hB]; unfold bD; rw [if_pos ⟨o0, o1⟩, Int.toNat_natCast]
          subst haB
          clear hB
          go_wp2_with fail
          have kx := kb
          go_ret
          exact ⟨rfl, ht.kept kx, kx.mono fun _ f => f.elim⟩
        · have haB : B = -1 := by rw [← hB]; unfold bD; rw [if_neg (fun x => o1 x.2)]
          subst haB
          clear hB
          go_wp2_with fail
          have kx := kb
          go_ret
          exact ⟨rfl, ht.kept kx, kx.mono fun _ f => f.elim⟩
      · have haB : B = -1 := by rw [← hB]; unfold bD; rw [if_neg (fun x => o0 x.1)]
        subst haB
        clear hB
        go_wp2_with fail
        have kx := kb
        go_ret
        exact ⟨rfl, ht.kept kx, kx.mono fun _ f => f.elim⟩
  · have haA : A = -1 := by rw [← hA]; unfold aD; rw [if_neg (fun x => p0 x.1)]
    subst haA
    clear hA
    by_cases o0 : 0 < rs2
    · by_cases o1 : rs2 < 32
      · obtain ⟨R2, rfl⟩ := Int.eq_ofNat_of_zero_le (show 0 ≤ rs2 by omega)
        have dx := st_x s1 (i := R2) (by omega)
        have u1 := (hS.X R2 (by omega)).1
        have f8 : bits .and .u64 (S.X R2) 255 = S.X R2 % 256 := u_low (S.X R2) 8 (by omega) 255 rfl
        have m0 : 0 ≤ S.X R2 % 256 := by omega
        have m1 : S.X R2 % 256 < 256 := by omega
        have haB : B = S.X R2 % 256 := by rw [← hB]; unfold bD; rw [if_pos ⟨o0, o1⟩, Int.toNat_natCast]
        subst haB
        clear hB
        go_wp2_with fail
        have kx := kb
        go_ret
        exact ⟨rfl, ht.kept kx, kx.mono fun _ f => f.elim⟩
      · have haB : B = -1 := by rw [← hB]; unfold bD; rw [if_neg (fun x => o1 x.2)]
        subst haB
        clear hB
        go_wp2_with fail
        have kx := kb
        go_ret
        exact ⟨rfl, ht.kept kx, kx.mono fun _ f => f.elim⟩
    · have haB : B = -1 := by rw [← hB]; unfold bD; rw [if_neg (fun x => o0 x.1)]
      subst haB
      clear hB
      go_wp2_with fail
      have kx := kb
      go_ret
      exact ⟨rfl, ht.kept kx, kx.mono fun _ f => f.elim⟩
set_option maxRecDepth 10000 in
set_option maxHeartbeats 16000000 in
theorem rdo_none_hi (ht : TlAt w b T) (hS : S.Ok) (op rd rs1 rs2 imm csr : Int) (n3 : (op == 63) = false) (n4 : (op == 64) = false) (n5 : (op == 65) = false) (hhi : ¬ op ≤ 59) :
    Calls Tryd.prog 13 #[.pointer (some ⟨b, 0, none⟩), .agg (rowOf 65 (stF S)), .agg (inA op rd rs1 rs2 imm csr)] w fun r w' => r = .returned (.int .i64 0) ∧ TlAt w' b T ∧ Only (fun i => i = b) w w' := by
  have n65 : ¬ op = 65 := beq_eq_false_iff_ne.1 n5
  obtain ⟨A, hA⟩ : ∃ A, aD S op rs1 = A := ⟨_, rfl⟩
  obtain ⟨B, hB⟩ : ∃ B, bD S rs2 = B := ⟨_, rfl⟩
  have s0 := st_new w S
  have n1 : (w.alloc (.cells (rowOf 65 (stF S)) 27)).heap.size = w.heap.size + 1 := Go.Deep.nblk_alloc _ _
  have i0 := alloc_last (w.alloc (.cells (rowOf 65 (stF S)) 27)) (inA op rd rs1 rs2 imm csr) 29
  rw [n1] at i0
  have s1 : StAt ((w.alloc (.cells (rowOf 65 (stF S)) 27)).alloc (.cells (inA op rd rs1 rs2 imm csr) 29)) w.heap.size S := World.rowIs.of_block s0 (((Only.refl (fun _ => False) (w.alloc (.cells (rowOf 65 (stF S)) 27))).alloc _).same _ (World.rowIs.lt s0) id)
  have kb : Kept w ((w.alloc (.cells (rowOf 65 (stF S)) 27)).alloc (.cells (inA op rd rs1 rs2 imm csr) 29)) := ((Only.refl _ w).alloc _).alloc _
  clear s0 n1
  go_enter Tryd.func13, Tryd.ntmps13
  go_upto_region 2 with fail
  generalize ((w.alloc (.cells (rowOf 65 (stF S)) 27)).alloc (.cells (inA op rd rs1 rs2 imm csr) 29)) = w1 at i0 s1 kb ⊢
  have c0 : _ = some (Value.int .i64 op) := Blk.cell i0 0
  have c2 : _ = some (Value.int .i64 rs1) := Blk.cell i0 2
  have c3 : _ = some (Value.int .i64 rs2) := Blk.cell i0 3
  have cv := st_v s1
  have c5 : _ = some (Value.int .i64 csr) := Blk.cell i0 5
  by_cases p0 : 0 < rs1
  · by_cases p1 : rs1 < 32
    · obtain ⟨R, rfl⟩ := Int.eq_ofNat_of_zero_le (show 0 ≤ rs1 by omega)
      have cx := st_x s1 (i := R) (by omega)
      have u0 := (hS.X R (by omega)).1
      have e8 : bits .and .u64 (S.X R / 256) 255 = S.X R / 256 % 256 := u_low (S.X R / 256) 8 (by omega) 255 rfl
      have l0 : 0 ≤ S.X R / 256 % 256 := by omega
      have l1 : S.X R / 256 % 256 < 256 := by omega
      have haA : A = S.X R / 256 % 256 := by rw [← hA]; unfold aD; rw [if_pos ⟨p0, p1⟩, if_neg n65, Int.toNat_natCast]
      subst haA
      clear hA
      by_cases o0 : 0 < rs2
      · by_cases o1 : rs2 < 32
        · obtain ⟨R2, rfl⟩ := Int.eq_ofNat_of_zero_le (show 0 ≤ rs2 by omega)
          have dx := st_x s1 (i := R2) (by omega)
          have u1 := (hS.X R2 (by omega)).1
          have f8 : bits .and .u64 (S.X R2) 255 = S.X R2 % 256 := u_low (S.X R2) 8 (by omega) 255 rfl
          have m0 : 0 ≤ S.X R2 % 256 := by omega
          have m1 : S.X R2 % 256 < 256 := by omega
          have haB : B = S.X R2 % 256 := by rw [← hB]; unfold bD; rw [if_pos ⟨o0, o1⟩, Int.toNat_natCast]
          subst haB
          clear hB
          go_wp2_with fail
          have kx := kb
          go_ret
          exact ⟨rfl, ht.kept kx, kx.mono fun _ f => f.elim⟩
        · have haB : B = -1 := by rw [← hB]; unfold bD; rw [if_neg (fun x => o1 x.2)]
          subst haB
          clear hB
          go_wp2_with fail
          have kx := kb
          go_ret
          exact ⟨rfl, ht.kept kx, kx.mono fun _ f => f.elim⟩
      · have haB : B = -1 := by rw [← hB]; unfold bD; rw [if_neg (fun x => o0 x.1)]
        subst haB
        clear hB
        go_wp2_with fail
        have kx := kb
        go_ret
        exact ⟨rfl, ht.kept kx, kx.mono fun _ f => f.elim⟩
    · have haA : A = -1 := by rw [← hA]; unfold aD; rw [if_neg (fun x => p1 x.2)]
      subst haA
      clear hA
      by_cases o0 : 0 < rs2
      · by_cases o1 : rs2 < 32
        · obtain ⟨R2, rfl⟩ := Int.eq_ofNat_of_zero_le (show 0 ≤ rs2 by omega)
          have dx := st_x s1 (i := R2) (by omega)
          have u1 := (hS.X R2 (by omega)).1
          have f8 : bits .and .u64 (S.X R2) 255 = S.X R2 % 256 := u_low (S.X R2) 8 (by omega) 255 rfl
          have m0 : 0 ≤ S.X R2 % 256 := by omega
          have m1 : S.X R2 % 256 < 256 := by omega
          have haB : B = S.X R2 % 256 := by rw [← hB]; unfold bD; rw [if_pos ⟨o0, o1⟩, Int.toNat_natCast]
          subst haB
          clear hB
          go_wp2_with fail
          have kx := kb
          go_ret
          exact ⟨rfl, ht.kept kx, kx.mono fun _ f => f.elim⟩
        · have haB : B = -1 := by rw [← hB]; unfold bD; rw [if_neg (fun x => o1 x.2)]
          subst haB
          clear hB
          go_wp2_with fail
          have kx := kb
          go_ret
          exact ⟨rfl, ht.kept kx, kx.mono fun _ f => f.elim⟩
      · have haB : B = -1 := by rw [← hB]; unfold bD; rw [if_neg (fun x => o0 x.1)]
        subst haB
        clear hB
        go_wp2_with fail
        have kx := kb
        go_ret
        exact ⟨rfl, ht.kept kx, kx.mono fun _ f => f.elim⟩
  · have haA : A = -1 := by rw [← hA]; unfold aD; rw [if_neg (fun x => p0 x.1)]
    subst haA
    clear hA
    by_cases o0 : 0 < rs2
    · by_cases o1 : rs2 < 32
      · obtain ⟨R2, rfl⟩ := Int.eq_ofNat_of_zero_le (show 0 ≤ rs2 by omega)
        have dx := st_x s1 (i := R2) (by omega)
        have u1 := (hS.X R2 (by omega)).1
        have f8 : bits .and .u64 (S.X R2) 255 = S.X R2 % 256 := u_low (S.X R2) 8 (by omega) 255 rfl
        have m0 : 0 ≤ S.X R2 % 256 := by omega
        have m1 : S.X R2 % 256 < 256 := by omega
        have haB : B = S.X R2 % 256 := by rw [← hB]; unfold bD; rw [if_pos ⟨o0, o1⟩, Int.toNat_natCast]
        subst haB
        clear hB
        go_wp2_with fail
        have kx := kb
        go_ret
        exact ⟨rfl, ht.kept kx, kx.mono fun _ f => f.elim⟩
      · have haB : B = -1 := by rw [← hB]; unfold bD; rw [if_neg (fun x => o1 x.2)]
        subst haB
        clear hB
        go_wp2_with fail
        have kx := kb
        go_ret
        exact ⟨rfl, ht.kept kx, kx.mono fun _ f => f.elim⟩
    · have haB : B = -1 := by rw [← hB]; unfold bD; rw [if_neg (fun x => o0 x.1)]
      subst haB
      clear hB
      go_wp2_with fail
      have kx := kb
      go_ret
      exact ⟨rfl, ht.kept kx, kx.mono fun _ f => f.elim⟩
set_option maxRecDepth 10000 in
set_option maxHeartbeats 16000000 in
theorem rdo_csr_no (ht : TlAt w b T) (hS : S.Ok) (op rd rs1 rs2 imm csr : Int) (n3 : (op == 63) = false) (n4 : (op == 64) = false) (n5 : (op == 65) = false) (hlo : ¬ op < 54) (hhi : op ≤ 59) (hw : wrB14 op rs1 imm = false) :
    Calls Tryd.prog 13 #[.pointer (some ⟨b, 0, none⟩), .agg (rowOf 65 (stF S)), .agg (inA op rd rs1 rs2 imm csr)] w fun r w' => r = .returned (.int .i64 0) ∧ TlAt w' b T ∧ Only (fun i => i = b) w w' := by
  have n65 : ¬ op = 65 := beq_eq_false_iff_ne.1 n5
  obtain ⟨A, hA⟩ : ∃ A, aD S op rs1 = A := ⟨_, rfl⟩
  obtain ⟨B, hB⟩ : ∃ B, bD S rs2 = B := ⟨_, rfl⟩
  have s0 := st_new w S
  have n1 : (w.alloc (.cells (rowOf 65 (stF S)) 27)).heap.size = w.heap.size + 1 := Go.Deep.nblk_alloc _ _
  have i0 := alloc_last (w.alloc (.cells (rowOf 65 (stF S)) 27)) (inA op rd rs1 rs2 imm csr) 29
  rw [n1] at i0
  have s1 : StAt ((w.alloc (.cells (rowOf 65 (stF S)) 27)).alloc (.cells (inA op rd rs1 rs2 imm csr) 29)) w.heap.size S := World.rowIs.of_block s0 (((Only.refl (fun _ => False) (w.alloc (.cells (rowOf 65 (stF S)) 27))).alloc _).same _ (World.rowIs.lt s0) id)
  have kb : Kept w ((w.alloc (.cells (rowOf 65 (stF S)) 27)).alloc (.cells (inA op rd rs1 rs2 imm csr) 29)) := ((Only.refl _ w).alloc _).alloc _
  clear s0 n1
  go_enter Tryd.func13, Tryd.ntmps13
  go_upto_region 2 with fail
  generalize ((w.alloc (.cells (rowOf 65 (stF S)) 27)).alloc (.cells (inA op rd rs1 rs2 imm csr) 29)) = w1 at i0 s1 kb ⊢
  have c0 : _ = some (Value.int .i64 op) := Blk.cell i0 0
  have c2 : _ = some (Value.int .i64 rs1) := Blk.cell i0 2
  have c3 : _ = some (Value.int .i64 rs2) := Blk.cell i0 3
  have cv := st_v s1
  have c5 : _ = some (Value.int .i64 csr) := Blk.cell i0 5
  by_cases p0 : 0 < rs1
  · by_cases p1 : rs1 < 32
    · obtain ⟨R, rfl⟩ := Int.eq_ofNat_of_zero_le (show 0 ≤ rs1 by omega)
      have cx := st_x s1 (i := R) (by omega)
      have u0 := (hS.X R (by omega)).1
      have e8 : bits .and .u64 (S.X R / 256) 255 = S.X R / 256 % 256 := u_low (S.X R / 256) 8 (by omega) 255 rfl
      have l0 : 0 ≤ S.X R / 256 % 256 := by omega
      have l1 : S.X R / 256 % 256 < 256 := by omega
      have haA : A = S.X R / 256 % 256 := by rw [← hA]; unfold aD; rw [if_pos ⟨p0, p1⟩, if_neg n65, Int.toNat_natCast]
      subst haA
      clear hA
      by_cases o0 : 0 < rs2
      · by_cases o1 : rs2 < 32
        · obtain ⟨R2, rfl⟩ := Int.eq_ofNat_of_zero_le (show 0 ≤ rs2 by omega)
          have dx := st_x s1 (i := R2) (by omega)
          have u1 := (hS.X R2 (by omega)).1
          have f8 : bits .and .u64 (S.X R2) 255 = S.X R2 % 256 := u_low (S.X R2) 8 (by omega) 255 rfl
          have m0 : 0 ≤ S.X R2 % 256 := by omega
          have m1 : S.X R2 % 256 < 256 := by omega
          have haB : B = S.X R2 % 256 := by rw [← hB]; unfold bD; rw [if_pos ⟨o0, o1⟩, Int.toNat_natCast]
          subst haB
          clear hB
          go_wp2_with (first | (refine wpList_load_blk (by rfl) 29 _ rfl (w.heap.size + 1) rfl i0 _ Tryd.underlying29 rfl (ins_size' _ _ _ _ _ _) ?_) | (go_at_call 29; refine (rwrites14 _ _ _ _ _ _ _).mono ?_; rintro r w2 ⟨rfl, k2⟩; rw [hw]; have kx := kb.then k2; have s2 : StAt w2 w.heap.size S := World.rowIs.of_block s1 (k2.same _ (World.rowIs.lt s1) id); have i2 := Blk.kept i0 k2; have cv2 := st_v s2; have d5 : _ = some (Value.int .i64 csr) := Blk.cell i2 5))
          go_ret
          exact ⟨rfl, ht.kept kx, kx.mono fun _ f => f.elim⟩
        · have haB : B = -1 := by rw [← hB]; unfold bD; rw [if_neg (fun x => o1 x.2)]
          subst haB
          clear hB
          go_wp2_with (first | (refine wpList_load_blk (by rfl) 29 _ rfl (w.heap.size + 1) rfl i0 _ Tryd.underlying29 rfl (ins_size' _ _ _ _ _ _) ?_) | (go_at_call 29; refine (rwrites14 _ _ _ _ _ _ _).mono ?_; rintro r w2 ⟨rfl, k2⟩; rw [hw]; have kx := kb.then k2; have s2 : StAt w2 w.heap.size S := World.rowIs.of_block s1 (k2.same _ (World.rowIs.lt s1) id); have i2 := Blk.kept i0 k2; have cv2 := st_v s2; have d5 : _ = some (Value.int .i64 csr) := Blk.cell i2 5))
          go_ret
          exact ⟨rfl, ht.kept kx, kx.mono fun _ f => f.elim⟩
      · have haB : B = -1 := by rw [← hB]; unfold bD; rw [if_neg (fun x => o0 x.1)]
        subst haB
        clear hB
        go_wp2_with (first | (refine wpList_load_blk (by rfl) 29 _ rfl (w.heap.size + 1) rfl i0 _ Tryd.underlying29 rfl (ins_size' _ _ _ _ _ _) ?_) | (go_at_call 29; refine (rwrites14 _ _ _ _ _ _ _).mono ?_; rintro r w2 ⟨rfl, k2⟩; rw [hw]; have kx := kb.then k2; have s2 : StAt w2 w.heap.size S := World.rowIs.of_block s1 (k2.same _ (World.rowIs.lt s1) id); have i2 := Blk.kept i0 k2; have cv2 := st_v s2; have d5 : _ = some (Value.int .i64 csr) := Blk.cell i2 5))
        go_ret
        exact ⟨rfl, ht.kept kx, kx.mono fun _ f => f.elim⟩
    · have haA : A = -1 := by rw [← hA]; unfold aD; rw [if_neg (fun x => p1 x.2)]
      subst haA
      clear hA
      by_cases o0 : 0 < rs2
      · by_cases o1 : rs2 < 32
        · obtain ⟨R2, rfl⟩ := Int.eq_ofNat_of_zero_le (show 0 ≤ rs2 by omega)
          have dx := st_x s1 (i := R2) (by omega)
          have u1 := (hS.X R2 (by omega)).1
          have f8 : bits .and .u64 (S.X R2) 255 = S.X R2 % 256 := u_low (S.X R2) 8 (by omega) 255 rfl
          have m0 : 0 ≤ S.X R2 % 256 := by omega
          have m1 : S.X R2 % 256 < 256 := by omega
          have haB : B = S.X R2 % 256 := by rw [← hB]; unfold bD; rw [if_pos ⟨o0, o1⟩, Int.toNat_natCast]
          subst haB
          clear hB
          go_wp2_with (first | (refine wpList_load_blk (by rfl) 29 _ rfl (w.heap.size + 1) rfl i0 _ Tryd.underlying29 rfl (ins_size' _ _ _ _ _ _) ?_) | (go_at_call 29; refine (rwrites14 _ _ _ _ _ _ _).mono ?_; rintro r w2 ⟨rfl, k2⟩; rw [hw]; have kx := kb.then k2; have s2 : StAt w2 w.heap.size S := World.rowIs.of_block s1 (k2.same _ (World.rowIs.lt s1) id); have i2 := Blk.kept i0 k2; have cv2 := st_v s2; have d5 : _ = some (Value.int .i64 csr) := Blk.cell i2 5))
          go_ret
          exact ⟨rfl, ht.kept kx, kx.mono fun _ f => f.elim⟩
        · have haB : B = -1 := by rw [← hB]; unfold bD; rw [if_neg (fun x => o1 x.2)]
          subst haB
          clear hB
          go_wp2_with (first | (refine wpList_load_blk (by rfl) 29 _ rfl (w.heap.size + 1) rfl i0 _ Tryd.underlying29 rfl (ins_size' _ _ _ _ _ _) ?_) | (go_at_call 29; refine (rwrites14 _ _ _ _ _ _ _).mono ?_; rintro r w2 ⟨rfl, k2⟩; rw [hw]; have kx := kb.then k2; have s2 : StAt w2 w.heap.size S := World.rowIs.of_block s1 (k2.same _ (World.rowIs.lt s1) id); have i2 := Blk.kept i0 k2; have cv2 := st_v s2; have d5 : _ = some (Value.int .i64 csr) := Blk.cell i2 5))
          go_ret
          exact ⟨rfl, ht.kept kx, kx.mono fun _ f => f.elim⟩
      · have haB : B = -1 := by rw [← hB]; unfold bD; rw [if_neg (fun x => o0 x.1)]
        subst haB
        clear hB
        go_wp2_with (first | (refine wpList_load_blk (by rfl) 29 _ rfl (w.heap.size + 1) rfl i0 _ Tryd.underlying29 rfl (ins_size' _ _ _ _ _ _) ?_) | (go_at_call 29; refine (rwrites14 _ _ _ _ _ _ _).mono ?_; rintro r w2 ⟨rfl, k2⟩; rw [hw]; have kx := kb.then k2; have s2 : StAt w2 w.heap.size S := World.rowIs.of_block s1 (k2.same _ (World.rowIs.lt s1) id); have i2 := Blk.kept i0 k2; have cv2 := st_v s2; have d5 : _ = some (Value.int .i64 csr) := Blk.cell i2 5))
        go_ret
        exact ⟨rfl, ht.kept kx, kx.mono fun _ f => f.elim⟩
  · have haA : A = -1 := by rw [← hA]; unfold aD; rw [if_neg (fun x => p0 x.1)]
    subst haA
    clear hA
    by_cases o0 : 0 < rs2
    · by_cases o1 : rs2 < 32
      · obtain ⟨R2, rfl⟩ := Int.eq_ofNat_of_zero_le (show 0 ≤ rs2 by omega)
        have dx := st_x s1 (i := R2) (by omega)
        have u1 := (hS.X R2 (by omega)).1
        have f8 : bits .and .u64 (S.X R2) 255 = S.X R2 % 256 := u_low (S.X R2) 8 (by omega) 255 rfl
        have m0 : 0 ≤ S.X R2 % 256 := by omega
        have m1 : S.X R2 % 256 < 256 := by omega
        have haB : B = S.X R2 % 256 := by rw [← hB]; unfold bD; rw [if_pos ⟨o0, o1⟩, Int.toNat_natCast]
        subst haB
        clear hB
        go_wp2_with (first | (refine wpList_load_blk (by rfl) 29 _ rfl (w.heap.size + 1) rfl i0 _ Tryd.underlying29 rfl (ins_size' _ _ _ _ _ _) ?_) | (go_at_call 29; refine (rwrites14 _ _ _ _ _ _ _).mono ?_; rintro r w2 ⟨rfl, k2⟩; rw [hw]; have kx := kb.then k2; have s2 : StAt w2 w.heap.size S := World.rowIs.of_block s1 (k2.same _ (World.rowIs.lt s1) id); have i2 := Blk.kept i0 k2; have cv2 := st_v s2; have d5 : _ = some (Value.int .i64 csr) := Blk.cell i2 5))
        go_ret
        exact ⟨rfl, ht.kept kx, kx.mono fun _ f => f.elim⟩
      · have haB : B = -1 := by rw [← hB]; unfold bD; rw [if_neg (fun x => o1 x.2)]
        subst haB
        clear hB
        go_wp2_with (first | (refine wpList_load_blk (by rfl) 29 _ rfl (w.heap.size + 1) rfl i0 _ Tryd.underlying29 rfl (ins_size' _ _ _ _ _ _) ?_) | (go_at_call 29; refine (rwrites14 _ _ _ _ _ _ _).mono ?_; rintro r w2 ⟨rfl, k2⟩; rw [hw]; have kx := kb.then k2; have s2 : StAt w2 w.heap.size S := World.rowIs.of_block s1 (k2.same _ (World.rowIs.lt s1) id); have i2 := Blk.kept i0 k2; have cv2 := st_v s2; have d5 : _ = some (Value.int .i64 csr) := Blk.cell i2 5))
        go_ret
        exact ⟨rfl, ht.kept kx, kx.mono fun _ f => f.elim⟩
    · have haB : B = -1 := by rw [← hB]; unfold bD; rw [if_neg (fun x => o0 x.1)]
      subst haB
      clear hB
      go_wp2_with (first | (refine wpList_load_blk (by rfl) 29 _ rfl (w.heap.size + 1) rfl i0 _ Tryd.underlying29 rfl (ins_size' _ _ _ _ _ _) ?_) | (go_at_call 29; refine (rwrites14 _ _ _ _ _ _ _).mono ?_; rintro r w2 ⟨rfl, k2⟩; rw [hw]; have kx := kb.then k2; have s2 : StAt w2 w.heap.size S := World.rowIs.of_block s1 (k2.same _ (World.rowIs.lt s1) id); have i2 := Blk.kept i0 k2; have cv2 := st_v s2; have d5 : _ = some (Value.int .i64 csr) := Blk.cell i2 5))
      go_ret
      exact ⟨rfl, ht.kept kx, kx.mono fun _ f => f.elim⟩
set_option maxRecDepth 10000 in
set_option maxHeartbeats 16000000 in
theorem rdo_csr_other_f (ht : TlAt w b T) (hS : S.Ok) (op rd rs1 rs2 imm csr : Int) (n3 : (op == 63) = false) (n4 : (op == 64) = false) (n5 : (op == 65) = false) (hlo : ¬ op < 54) (hhi : op ≤ 59) (hw : wrB14 op rs1 imm = true) (hv : S.v = false) (m1 : (csr == 384) = false) (m2 : (csr == 640) = false) (m3 : (csr == 1664) = false) :
    Calls Tryd.prog 13 #[.pointer (some ⟨b, 0, none⟩), .agg (rowOf 65 (stF S)), .agg (inA op rd rs1 rs2 imm csr)] w fun r w' => r = .returned (.int .i64 0) ∧ TlAt w' b T ∧ Only (fun i => i = b) w w' := by
  have n65 : ¬ op = 65 := beq_eq_false_iff_ne.1 n5
  obtain ⟨A, hA⟩ : ∃ A, aD S op rs1 = A := ⟨_, rfl⟩
  obtain ⟨B, hB⟩ : ∃ B, bD S rs2 = B := ⟨_, rfl⟩
  have s0 := st_new w S
  have n1 : (w.alloc (.cells (rowOf 65 (stF S)) 27)).heap.size = w.heap.size + 1 := Go.Deep.nblk_alloc _ _
  have i0 := alloc_last (w.alloc (.cells (rowOf 65 (stF S)) 27)) (inA op rd rs1 rs2 imm csr) 29
  rw [n1] at i0
  have s1 : StAt ((w.alloc (.cells (rowOf 65 (stF S)) 27)).alloc (.cells (inA op rd rs1 rs2 imm csr) 29)) w.heap.size S := World.rowIs.of_block s0 (((Only.refl (fun _ => False) (w.alloc (.cells (rowOf 65 (stF S)) 27))).alloc _).same _ (World.rowIs.lt s0) id)
  have kb : Kept w ((w.alloc (.cells (rowOf 65 (stF S)) 27)).alloc (.cells (inA op rd rs1 rs2 imm csr) 29)) := ((Only.refl _ w).alloc _).alloc _
  clear s0 n1
  go_enter Tryd.func13, Tryd.ntmps13
  go_upto_region 2 with fail
  generalize ((w.alloc (.cells (rowOf 65 (stF S)) 27)).alloc (.cells (inA op rd rs1 rs2 imm csr) 29)) = w1 at i0 s1 kb ⊢
  have c0 : _ = some (Value.int .i64 op) := Blk.cell i0 0
  have c2 : _ = some (Value.int .i64 rs1) := Blk.cell i0 2
  have c3 : _ = some (Value.int .i64 rs2) := Blk.cell i0 3
  have cv := st_v s1
  have c5 : _ = some (Value.int .i64 csr) := Blk.cell i0 5
  by_cases p0 : 0 < rs1
  · by_cases p1 : rs1 < 32
    · obtain ⟨R, rfl⟩ := Int.eq_ofNat_of_zero_le (show 0 ≤ rs1 by omega)
      have cx := st_x s1 (i := R) (by omega)
      have u0 := (hS.X R (by omega)).1
      have e8 : bits .and .u64 (S.X R / 256) 255 = S.X R / 256 % 256 := u_low (S.X R / 256) 8 (by omega) 255 rfl
      have l0 : 0 ≤ S.X R / 256 % 256 := by omega
      have l1 : S.X R / 256 % 256 < 256 := by omega
      have haA : A = S.X R / 256 % 256 := by rw [← hA]; unfold aD; rw [if_pos ⟨p0, p1⟩, if_neg n65, Int.toNat_natCast]
      subst haA
      clear hA
      by_cases o0 : 0 < rs2
      · by_cases o1 : rs2 < 32
        · obtain ⟨R2, rfl⟩ := Int.eq_ofNat_of_zero_le (show 0 ≤ rs2 by omega)
          have dx := st_x s1 (i := R2) (by omega)
          have u1 := (hS.X R2 (by omega)).1
          have f8 : bits .and .u64 (S.X R2) 255 = S.X R2 % 256 := u_low (S.X R2) 8 (by omega) 255 rfl
          have m0 : 0 ≤ S.X R2 % 256 := by omega
          have m1 : S.X R2 % 256 < 256 := by omega
          have haB : B = S.X R2 % 256 := by rw [← hB]; unfold bD; rw [if_pos ⟨o0, o1⟩, Int.toNat_natCast]
          subst haB
          clear hB
          rw [hv] at cv
          go_wp2_with (first | (refine wpList_load_blk (by rfl) 29 _ rfl (w.heap.size + 1) rfl i0 _ Tryd.underlying29 rfl (ins_size' _ _ _ _ _ _) ?_) | (go_at_call 29; refine (rwrites14 _ _ _ _ _ _ _).mono ?_; rintro r w2 ⟨rfl, k2⟩; rw [hw]; have kx := kb.then k2; have s2 : StAt w2 w.heap.size S := World.rowIs.of_block s1 (k2.same _ (World.rowIs.lt s1) id); have i2 := Blk.kept i0 k2; have cv2 := st_v s2; rw [hv] at cv2; have d5 : _ = some (Value.int .i64 csr) := Blk.cell i2 5))
          go_ret
          exact ⟨rfl, ht.kept kx, kx.mono fun _ f => f.elim⟩
        · have haB : B = -1 := by rw [← hB]; unfold bD; rw [if_neg (fun x => o1 x.2)]
          subst haB
          clear hB
          rw [hv] at cv
          go_wp2_with (first | (refine wpList_load_blk (by rfl) 29 _ rfl (w.heap.size + 1) rfl i0 _ Tryd.underlying29 rfl (ins_size' _ _ _ _ _ _) ?_) | (go_at_call 29; refine (rwrites14 _ _ _ _ _ _ _).mono ?_; rintro r w2 ⟨rfl, k2⟩; rw [hw]; have kx := kb.then k2; have s2 : StAt w2 w.heap.size S := World.rowIs.of_block s1 (k2.same _ (World.rowIs.lt s1) id); have i2 := Blk.kept i0 k2; have cv2 := st_v s2; rw [hv] at cv2; have d5 : _ = some (Value.int .i64 csr) := Blk.cell i2 5))
          go_ret
          exact ⟨rfl, ht.kept kx, kx.mono fun _ f => f.elim⟩
      · have haB : B = -1 := by rw [← hB]; unfold bD; rw [if_neg (fun x => o0 x.1)]
        subst haB
        clear hB
        rw [hv] at cv
        go_wp2_with (first | (refine wpList_load_blk (by rfl) 29 _ rfl (w.heap.size + 1) rfl i0 _ Tryd.underlying29 rfl (ins_size' _ _ _ _ _ _) ?_) | (go_at_call 29; refine (rwrites14 _ _ _ _ _ _ _).mono ?_; rintro r w2 ⟨rfl, k2⟩; rw [hw]; have kx := kb.then k2; have s2 : StAt w2 w.heap.size S := World.rowIs.of_block s1 (k2.same _ (World.rowIs.lt s1) id); have i2 := Blk.kept i0 k2; have cv2 := st_v s2; rw [hv] at cv2; have d5 : _ = some (Value.int .i64 csr) := Blk.cell i2 5))
        go_ret
        exact ⟨rfl, ht.kept kx, kx.mono fun _ f => f.elim⟩
    · have haA : A = -1 := by rw [← hA]; unfold aD; rw [if_neg (fun x => p1 x.2)]
      subst haA
      clear hA
      by_cases o0 : 0 < rs2
      · by_cases o1 : rs2 < 32
        · obtain ⟨R2, rfl⟩ := Int.eq_ofNat_of_zero_le (show 0 ≤ rs2 by omega)
          have dx := st_x s1 (i := R2) (by omega)
          have u1 := (hS.X R2 (by omega)).1
          have f8 : bits .and .u64 (S.X R2) 255 = S.X R2 % 256 := u_low (S.X R2) 8 (by omega) 255 rfl
          have m0 : 0 ≤ S.X R2 % 256 := by omega
          have m1 : S.X R2 % 256 < 256 := by omega
          have haB : B = S.X R2 % 256 := by rw [← hB]; unfold bD; rw [if_pos ⟨o0, o1⟩, Int.toNat_natCast]
          subst haB
          clear hB
          rw [hv] at cv
          go_wp2_with (first | (refine wpList_load_blk (by rfl) 29 _ rfl (w.heap.size + 1) rfl i0 _ Tryd.underlying29 rfl (ins_size' _ _ _ _ _ _) ?_) | (go_at_call 29; refine (rwrites14 _ _ _ _ _ _ _).mono ?_; rintro r w2 ⟨rfl, k2⟩; rw [hw]; have kx := kb.then k2; have s2 : StAt w2 w.heap.size S := World.rowIs.of_block s1 (k2.same _ (World.rowIs.lt s1) id); have i2 := Blk.kept i0 k2; have cv2 := st_v s2; rw [hv] at cv2; have d5 : _ = some (Value.int .i64 csr) := Blk.cell i2 5))
          go_ret
          exact ⟨rfl, ht.kept kx, kx.mono fun _ f => f.elim⟩
        · have haB : B = -1 := by rw [← hB]; unfold bD; rw [if_neg (fun x => o1 x.2)]
          subst haB
          clear hB
          rw [hv] at cv
          go_wp2_with (first | (refine wpList_load_blk (by rfl) 29 _ rfl (w.heap.size + 1) rfl i0 _ Tryd.underlying29 rfl (ins_size' _ _ _ _ _ _) ?_) | (go_at_call 29; refine (rwrites14 _ _ _ _ _ _ _).mono ?_; rintro r w2 ⟨rfl, k2⟩; rw [hw]; have kx := kb.then k2; have s2 : StAt w2 w.heap.size S := World.rowIs.of_block s1 (k2.same _ (World.rowIs.lt s1) id); have i2 := Blk.kept i0 k2; have cv2 := st_v s2; rw [hv] at cv2; have d5 : _ = some (Value.int .i64 csr) := Blk.cell i2 5))
          go_ret
          exact ⟨rfl, ht.kept kx, kx.mono fun _ f => f.elim⟩
      · have haB : B = -1 := by rw [← hB]; unfold bD; rw [if_neg (fun x => o0 x.1)]
        subst haB
        clear hB
        rw [hv] at cv
        go_wp2_with (first | (refine wpList_load_blk (by rfl) 29 _ rfl (w.heap.size + 1) rfl i0 _ Tryd.underlying29 rfl (ins_size' _ _ _ _ _ _) ?_) | (go_at_call 29; refine (rwrites14 _ _ _ _ _ _ _).mono ?_; rintro r w2 ⟨rfl, k2⟩; rw [hw]; have kx := kb.then k2; have s2 : StAt w2 w.heap.size S := World.rowIs.of_block s1 (k2.same _ (World.rowIs.lt s1) id); have i2 := Blk.kept i0 k2; have cv2 := st_v s2; rw [hv] at cv2; have d5 : _ = some (Value.int .i64 csr) := Blk.cell i2 5))
        go_ret
        exact ⟨rfl, ht.kept kx, kx.mono fun _ f => f.elim⟩
  · have haA : A = -1 := by rw [← hA]; unfold aD; rw [if_neg (fun x => p0 x.1)]
    subst haA
    clear hA
    by_cases o0 : 0 < rs2
    · by_cases o1 : rs2 < 32
      · obtain ⟨R2, rfl⟩ := Int.eq_ofNat_of_zero_le (show 0 ≤ rs2 by omega)
        have dx := st_x s1 (i := R2) (by omega)
        have u1 := (hS.X R2 (by omega)).1
        have f8 : bits .and .u64 (S.X R2) 255 = S.X R2 % 256 := u_low (S.X R2) 8 (by omega) 255 rfl
        have m0 : 0 ≤ S.X R2 % 256 := by omega
        have m1 : S.X R2 % 256 < 256 := by omega
        have haB : B = S.X R2 % 256 := by rw [← hB]; unfold bD; rw [if_pos ⟨o0, o1⟩, Int.toNat_natCast]
        subst haB
        clear hB
        rw [hv] at cv
        go_wp2_with (first | (refine wpList_load_blk (by rfl) 29 _ rfl (w.heap.size + 1) rfl i0 _ Tryd.underlying29 rfl (ins_size' _ _ _ _ _ _) ?_) | (go_at_call 29; refine (rwrites14 _ _ _ _ _ _ _).mono ?_; rintro r w2 ⟨rfl, k2⟩; rw [hw]; have kx := kb.then k2; have s2 : StAt w2 w.heap.size S := World.rowIs.of_block s1 (k2.same _ (World.rowIs.lt s1) id); have i2 := Blk.kept i0 k2; have cv2 := st_v s2; rw [hv] at cv2; have d5 : _ = some (Value.int .i64 csr) := Blk.cell i2 5))
        go_ret
        exact ⟨rfl, ht.kept kx, kx.mono fun _ f => f.elim⟩
      · have haB : B = -1 := by rw [← hB]; unfold bD; rw [if_neg (fun x => o1 x.2)]
        subst haB
        clear hB
        rw [hv] at cv
        go_wp2_with (first | (refine wpList_load_blk (by rfl) 29 _ rfl (w.heap.size + 1) rfl i0 _ Tryd.underlying29 rfl (ins_size' _ _ _ _ _ _) ?_) | (go_at_call 29; refine (rwrites14 _ _ _ _ _ _ _).mono ?_; rintro r w2 ⟨rfl, k2⟩; rw [hw]; have kx := kb.then k2; have s2 : StAt w2 w.heap.size S := World.rowIs.of_block s1 (k2.same _ (World.rowIs.lt s1) id); have i2 := Blk.kept i0 k2; have cv2 := st_v s2; rw [hv] at cv2; have d5 : _ = some (Value.int .i64 csr) := Blk.cell i2 5))
        go_ret
        exact ⟨rfl, ht.kept kx, kx.mono fun _ f => f.elim⟩
    · have haB : B = -1 := by rw [← hB]; unfold bD; rw [if_neg (fun x => o0 x.1)]
      subst haB
      clear hB
      rw [hv] at cv
      go_wp2_with (first | (refine wpList_load_blk (by rfl) 29 _ rfl (w.heap.size + 1) rfl i0 _ Tryd.underlying29 rfl (ins_size' _ _ _ _ _ _) ?_) | (go_at_call 29; refine (rwrites14 _ _ _ _ _ _ _).mono ?_; rintro r w2 ⟨rfl, k2⟩; rw [hw]; have kx := kb.then k2; have s2 : StAt w2 w.heap.size S := World.rowIs.of_block s1 (k2.same _ (World.rowIs.lt s1) id); have i2 := Blk.kept i0 k2; have cv2 := st_v s2; rw [hv] at cv2; have d5 : _ = some (Value.int .i64 csr) := Blk.cell i2 5))
      go_ret
      exact ⟨rfl, ht.kept kx, kx.mono fun _ f => f.elim⟩
set_option maxRecDepth 10000 in
set_option maxHeartbeats 16000000 in
theorem rdo_csr_other_t (ht : TlAt w b T) (hS : S.Ok) (op rd rs1 rs2 imm csr : Int) (n3 : (op == 63) = false) (n4 : (op == 64) = false) (n5 : (op == 65) = false) (hlo : ¬ op < 54) (hhi : op ≤ 59) (hw : wrB14 op rs1 imm = true) (hv : S.v = true) (n : Int) (hr : redI csr = n) (m1 : (n == 384) = false) (m2 : (n == 640) = false) (m3 : (n == 1664) = false) :
    Calls Tryd.prog 13 #[.pointer (some ⟨b, 0, none⟩), .agg (rowOf 65 (stF S)), .agg (inA op rd rs1 rs2 imm csr)] w fun r w' => r = .returned (.int .i64 0) ∧ TlAt w' b T ∧ Only (fun i => i = b) w w' := by
  have n65 : ¬ op = 65 := beq_eq_false_iff_ne.1 n5
  obtain ⟨A, hA⟩ : ∃ A, aD S op rs1 = A := ⟨_, rfl⟩
  obtain ⟨B, hB⟩ : ∃ B, bD S rs2 = B := ⟨_, rfl⟩
  have s0 := st_new w S
  have n1 : (w.alloc (.cells (rowOf 65 (stF S)) 27)).heap.size = w.heap.size + 1 := Go.Deep.nblk_alloc _ _
  have i0 := alloc_last (w.alloc (.cells (rowOf 65 (stF S)) 27)) (inA op rd rs1 rs2 imm csr) 29
  rw [n1] at i0
  have s1 : StAt ((w.alloc (.cells (rowOf 65 (stF S)) 27)).alloc (.cells (inA op rd rs1 rs2 imm csr) 29)) w.heap.size S := World.rowIs.of_block s0 (((Only.refl (fun _ => False) (w.alloc (.cells (rowOf 65 (stF S)) 27))).alloc _).same _ (World.rowIs.lt s0) id)
  have kb : Kept w ((w.alloc (.cells (rowOf 65 (stF S)) 27)).alloc (.cells (inA op rd rs1 rs2 imm csr) 29)) := ((Only.refl _ w).alloc _).alloc _
  clear s0 n1
  go_enter Tryd.func13, Tryd.ntmps13
  go_upto_region 2 with fail
  generalize ((w.alloc (.cells (rowOf 65 (stF S)) 27)).alloc (.cells (inA op rd rs1 rs2 imm csr) 29)) = w1 at i0 s1 kb ⊢
  have c0 : _ = some (Value.int .i64 op) := Blk.cell i0 0
  have c2 : _ = some (Value.int .i64 rs1) := Blk.cell i0 2
  have c3 : _ = some (Value.int .i64 rs2) := Blk.cell i0 3
  have cv := st_v s1
  have c5 : _ = some (Value.int .i64 csr) := Blk.cell i0 5
  by_cases p0 : 0 < rs1
  · by_cases p1 : rs1 < 32
    · obtain ⟨R, rfl⟩ := Int.eq_ofNat_of_zero_le (show 0 ≤ rs1 by omega)
      have cx := st_x s1 (i := R) (by omega)
      have u0 := (hS.X R (by omega)).1
      have e8 : bits .and .u64 (S.X R / 256) 255 = S.X R / 256 % 256 := u_low (S.X R / 256) 8 (by omega) 255 rfl
      have l0 : 0 ≤ S.X R / 256 % 256 := by omega
      have l1 : S.X R / 256 % 256 < 256 := by omega
      have haA : A = S.X R / 256 % 256 := by rw [← hA]; unfold aD; rw [if_pos ⟨p0, p1⟩, if_neg n65, Int.toNat_natCast]
      subst haA
      clear hA
      by_cases o0 : 0 < rs2
      · by_cases o1 : rs2 < 32
        · obtain ⟨R2, rfl⟩ := Int.eq_ofNat_of_zero_le (show 0 ≤ rs2 by omega)
          have dx := st_x s1 (i := R2) (by omega)
          have u1 := (hS.X R2 (by omega)).1
          have f8 : bits .and .u64 (S.X R2) 255 = S.X R2 % 256 := u_low (S.X R2) 8 (by omega) 255 rfl
          have m0 : 0 ≤ S.X R2 % 256 := by omega
          have m1 : S.X R2 % 256 < 256 := by omega
          have haB : B = S.X R2 % 256 := by rw [← hB]; unfold bD; rw [if_pos ⟨o0, o1⟩, Int.toNat_natCast]
          subst haB
          clear hB
          rw [hv] at cv
          go_wp2_with (first | (refine wpList_load_blk (by rfl) 29 _ rfl (w.heap.size + 1) rfl i0 _ Tryd.underlying29 rfl (ins_size' _ _ _ _ _ _) ?_) | (go_at_call 29; refine (rwrites14 _ _ _ _ _ _ _).mono ?_; rintro r w2 ⟨rfl, k2⟩; rw [hw]; have kx := kb.then k2; have s2 : StAt w2 w.heap.size S := World.rowIs.of_block s1 (k2.same _ (World.rowIs.lt s1) id); have i2 := Blk.kept i0 k2; have cv2 := st_v s2; rw [hv] at cv2; have d5 : _ = some (Value.int .i64 csr) := Blk.cell i2 5) | (go_at_call 30; refine (rred_any _ _).mono ?_; rintro r wy ⟨rfl, hwy⟩; rw [hwy, hr]; clear hwy wy))
          go_ret
          exact ⟨rfl, ht.kept kx, kx.mono fun _ f => f.elim⟩
        · have haB : B = -1 := by rw [← hB]; unfold bD; rw [if_neg (fun x => o1 x.2)]
          subst haB
          clear hB
          rw [hv] at cv
          go_wp2_with (first | (refine wpList_load_blk (by rfl) 29 _ rfl (w.heap.size + 1) rfl i0 _ Tryd.underlying29 rfl (ins_size' _ _ _ _ _ _) ?_) | (go_at_call 29; refine (rwrites14 _ _ _ _ _ _ _).mono ?_; rintro r w2 ⟨rfl, k2⟩; rw [hw]; have kx := kb.then k2; have s2 : StAt w2 w.heap.size S := World.rowIs.of_block s1 (k2.same _ (World.rowIs.lt s1) id); have i2 := Blk.kept i0 k2; have cv2 := st_v s2; rw [hv] at cv2; have d5 : _ = some (Value.int .i64 csr) := Blk.cell i2 5) | (go_at_call 30; refine (rred_any _ _).mono ?_; rintro r wy ⟨rfl, hwy⟩; rw [hwy, hr]; clear hwy wy))
          go_ret
          exact ⟨rfl, ht.kept kx, kx.mono fun _ f => f.elim⟩
      · have haB : B = -1 := by rw [← hB]; unfold bD; rw [if_neg (fun x => o0 x.1)]
        subst haB
        clear hB
        rw [hv] at cv
        go_wp2_with (first | (refine wpList_load_blk (by rfl) 29 _ rfl (w.heap.size + 1) rfl i0 _ Tryd.underlying29 rfl (ins_size' _ _ _ _ _ _) ?_) | (go_at_call 29; refine (rwrites14 _ _ _ _ _ _ _).mono ?_; rintro r w2 ⟨rfl, k2⟩; rw [hw]; have kx := kb.then k2; have s2 : StAt w2 w.heap.size S := World.rowIs.of_block s1 (k2.same _ (World.rowIs.lt s1) id); have i2 := Blk.kept i0 k2; have cv2 := st_v s2; rw [hv] at cv2; have d5 : _ = some (Value.int .i64 csr) := Blk.cell i2 5) | (go_at_call 30; refine (rred_any _ _).mono ?_; rintro r wy ⟨rfl, hwy⟩; rw [hwy, hr]; clear hwy wy))
        go_ret
        exact ⟨rfl, ht.kept kx, kx.mono fun _ f => f.elim⟩
    · have haA : A = -1 := by rw [← hA]; unfold aD; rw [if_neg (fun x => p1 x.2)]
      subst haA
      clear hA
      by_cases o0 : 0 < rs2
      · by_cases o1 : rs2 < 32
        · obtain ⟨R2, rfl⟩ := Int.eq_ofNat_of_zero_le (show 0 ≤ rs2 by omega)
          have dx := st_x s1 (i := R2) (by omega)
          have u1 := (hS.X R2 (by omega)).1
          have f8 : bits .and .u64 (S.X R2) 255 = S.X R2 % 256 := u_low (S.X R2) 8 (by omega) 255 rfl
          have m0 : 0 ≤ S.X R2 % 256 := by omega
          have m1 : S.X R2 % 256 < 256 := by omega
          have haB : B = S.X R2 % 256 := by rw [← hB]; unfold bD; rw [if_pos ⟨o0, o1⟩, Int.toNat_natCast]
          subst haB
          clear hB
          rw [hv] at cv
          go_wp2_with (first | (refine wpList_load_blk (by rfl) 29 _ rfl (w.heap.size + 1) rfl i0 _ Tryd.underlying29 rfl (ins_size' _ _ _ _ _ _) ?_) | (go_at_call 29; refine (rwrites14 _ _ _ _ _ _ _).mono ?_; rintro r w2 ⟨rfl, k2⟩; rw [hw]; have kx := kb.then k2; have s2 : StAt w2 w.heap.size S := World.rowIs.of_block s1 (k2.same _ (World.rowIs.lt s1) id); have i2 := Blk.kept i0 k2; have cv2 := st_v s2; rw [hv] at cv2; have d5 : _ = some (Value.int .i64 csr) := Blk.cell i2 5) | (go_at_call 30; refine (rred_any _ _).mono ?_; rintro r wy ⟨rfl, hwy⟩; rw [hwy, hr]; clear hwy wy))
          go_ret
          exact ⟨rfl, ht.kept kx, kx.mono fun _ f => f.elim⟩
        · have haB : B = -1 := by rw [← hB]; unfold bD; rw [if_neg (fun x => o1 x.2)]
          subst haB
          clear hB
          rw [hv] at cv
          go_wp2_with (first | (refine wpList_load_blk (by rfl) 29 _ rfl (w.heap.size + 1) rfl i0 _ Tryd.underlying29 rfl (ins_size' _ _ _ _ _ _) ?_) | (go_at_call 29; refine (rwrites14 _ _ _ _ _ _ _).mono ?_; rintro r w2 ⟨rfl, k2⟩; rw [hw]; have kx := kb.then k2; have s2 : StAt w2 w.heap.size S := World.rowIs.of_block s1 (k2.same _ (World.rowIs.lt s1) id); have i2 := Blk.kept i0 k2; have cv2 := st_v s2; rw [hv] at cv2; have d5 : _ = some (Value.int .i64 csr) := Blk.cell i2 5) | (go_at_call 30; refine (rred_any _ _).mono ?_; rintro r wy ⟨rfl, hwy⟩; rw [hwy, hr]; clear hwy wy))
          go_ret
          exact ⟨rfl, ht.kept kx, kx.mono fun _ f => f.elim⟩
      · have haB : B = -1 := by rw [← hB]; unfold bD; rw [if_neg (fun x => o0 x.1)]
        subst haB
        clear hB
        rw [hv] at cv
        go_wp2_with (first | (refine wpList_load_blk (by rfl) 29 _ rfl (w.heap.size + 1) rfl i0 _ Tryd.underlying29 rfl (ins_size' _ _ _ _ _ _) ?_) | (go_at_call 29; refine (rwrites14 _ _ _ _ _ _ _).mono ?_; rintro r w2 ⟨rfl, k2⟩; rw [hw]; have kx := kb.then k2; have s2 : StAt w2 w.heap.size S := World.rowIs.of_block s1 (k2.same _ (World.rowIs.lt s1) id); have i2 := Blk.kept i0 k2; have cv2 := st_v s2; rw [hv] at cv2; have d5 : _ = some (Value.int .i64 csr) := Blk.cell i2 5) | (go_at_call 30; refine (rred_any _ _).mono ?_; rintro r wy ⟨rfl, hwy⟩; rw [hwy, hr]; clear hwy wy))
        go_ret
        exact ⟨rfl, ht.kept kx, kx.mono fun _ f => f.elim⟩
  · have haA : A = -1 := by rw [← hA]; unfold aD; rw [if_neg (fun x => p0 x.1)]
    subst haA
    clear hA
    by_cases o0 : 0 < rs2
    · by_cases o1 : rs2 < 32
      · obtain ⟨R2, rfl⟩ := Int.eq_ofNat_of_zero_le (show 0 ≤ rs2 by omega)
        have dx := st_x s1 (i := R2) (by omega)
        have u1 := (hS.X R2 (by omega)).1
        have f8 : bits .and .u64 (S.X R2) 255 = S.X R2 % 256 := u_low (S.X R2) 8 (by omega) 255 rfl
        have m0 : 0 ≤ S.X R2 % 256 := by omega
        have m1 : S.X R2 % 256 < 256 := by omega
        have haB : B = S.X R2 % 256 := by rw [← hB]; unfold bD; rw [if_pos ⟨o0, o1⟩, Int.toNat_natCast]
        subst haB
        clear hB
        rw [hv] at cv
        go_wp2_with (first | (refine wpList_load_blk (by rfl) 29 _ rfl (w.heap.size + 1) rfl i0 _ Tryd.underlying29 rfl (ins_size' _ _ _ _ _ _) ?_) | (go_at_call 29; refine (rwrites14 _ _ _ _ _ _ _).mono ?_; rintro r w2 ⟨rfl, k2⟩; rw [hw]; have kx := kb.then k2; have s2 : StAt w2 w.heap.size S := World.rowIs.of_block s1 (k2.same _ (World.rowIs.lt s1) id); have i2 := Blk.kept i0 k2; have cv2 := st_v s2; rw [hv] at cv2; have d5 : _ = some (Value.int .i64 csr) := Blk.cell i2 5) | (go_at_call 30; refine (rred_any _ _).mono ?_; rintro r wy ⟨rfl, hwy⟩; rw [hwy, hr]; clear hwy wy))
        go_ret
        exact ⟨rfl, ht.kept kx, kx.mono fun _ f => f.elim⟩
      · have haB : B = -1 := by rw [← hB]; unfold bD; rw [if_neg (fun x => o1 x.2)]
        subst haB
        clear hB
        rw [hv] at cv
        go_wp2_with (first | (refine wpList_load_blk (by rfl) 29 _ rfl (w.heap.size + 1) rfl i0 _ Tryd.underlying29 rfl (ins_size' _ _ _ _ _ _) ?_) | (go_at_call 29; refine (rwrites14 _ _ _ _ _ _ _).mono ?_; rintro r w2 ⟨rfl, k2⟩; rw [hw]; have kx := kb.then k2; have s2 : StAt w2 w.heap.size S := World.rowIs.of_block s1 (k2.same _ (World.rowIs.lt s1) id); have i2 := Blk.kept i0 k2; have cv2 := st_v s2; rw [hv] at cv2; have d5 : _ = some (Value.int .i64 csr) := Blk.cell i2 5) | (go_at_call 30; refine (rred_any _ _).mono ?_; rintro r wy ⟨rfl, hwy⟩; rw [hwy, hr]; clear hwy wy))
        go_ret
        exact ⟨rfl, ht.kept kx, kx.mono fun _ f => f.elim⟩
    · have haB : B = -1 := by rw [← hB]; unfold bD; rw [if_neg (fun x => o0 x.1)]
      subst haB
      clear hB
      rw [hv] at cv
      go_wp2_with (first | (refine wpList_load_blk (by rfl) 29 _ rfl (w.heap.size + 1) rfl i0 _ Tryd.underlying29 rfl (ins_size' _ _ _ _ _ _) ?_) | (go_at_call 29; refine (rwrites14 _ _ _ _ _ _ _).mono ?_; rintro r w2 ⟨rfl, k2⟩; rw [hw]; have kx := kb.then k2; have s2 : StAt w2 w.heap.size S := World.rowIs.of_block s1 (k2.same _ (World.rowIs.lt s1) id); have i2 := Blk.kept i0 k2; have cv2 := st_v s2; rw [hv] at cv2; have d5 : _ = some (Value.int .i64 csr) := Blk.cell i2 5) | (go_at_call 30; refine (rred_any _ _).mono ?_; rintro r wy ⟨rfl, hwy⟩; rw [hwy, hr]; clear hwy wy))
      go_ret
      exact ⟨rfl, ht.kept kx, kx.mono fun _ f => f.elim⟩
end
end Go.Proofs.YtpfblbleendpiaaDoor
