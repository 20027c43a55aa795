/-
  What is read and written of the document's registers of control (Read, Write of the reference): walked whole, for every argument.
-/
import Derived.Test.YthmanpfooegbcaaDoorRefCsr2
import Derived.Deep.RegionHeld3
namespace Go.Proofs.YthmanpfooegbcaaDoor
open Go.RowKit
theorem StAt.kept {w w' : World} {b : Nat} {S : StM} (h : StAt w b S) (g : Kept w w') : StAt w' b S := World.rowIs.of_block h (g.same b (World.rowIs.lt h) id)
theorem StAt.more {w : World} {b : Nat} {S : StM} (h : StAt w b S) (o : Obj) : StAt (w.alloc o) b S := World.rowIs.alloc h o
theorem kept_boxed {w w1 : World} {o : Obj} (g : Kept (w.alloc o) w1) : Kept w w1 := ((Only.refl _ w).alloc o).then g
theorem rdC_in {S : StM} {n : Int} {i : Nat} (h : idxI n = i) : rdC S n = S.C i ∧ okC n = true := by
  have h0 : 0 ≤ idxI n := by omega
  refine ⟨?_, decide_eq_true (.inl h0)⟩
  unfold rdC; rw [if_pos h0, h, Int.toNat_natCast]
theorem idx_256 : idxI 256 = -1 := by decide +kernel
theorem idx_260 : idxI 260 = -1 := by decide +kernel
theorem idx_516 : idxI 516 = -1 := by decide +kernel
theorem idx_3074 : idxI 3074 = -1 := by decide +kernel
section
variable {S : StM}
set_option maxRecDepth 10000 in
set_option maxHeartbeats 1000000 in
theorem rread_in8 (n : Int) (i : Nat) (hi : i < 29) (he : idxI n = i) (w : World) :
    Calls Tryd.prog 25 #[.agg (rowOf 65 (stF S)), .int .i64 n] w fun e w' => e = .returned (.tuple #[.int .u64 (S.C i), .bool true]) ∧ Kept w w' := by
  have l0 : (0 : Int) ≤ (i : Int) := by omega
  have l1 : (i : Int) < 29 := by omega
  go_enter Tryd.func25, Tryd.ntmps25
  go_wp2_with fail
  refine (ridx_any n _).mono ?_
  rintro e w1 ⟨rfl, k1⟩
  have hc := ((st_new w S).kept k1).c hi
  rw [he]
  go_wp2
  go_ret2
  exact ⟨rfl, kept_boxed k1⟩
set_option maxRecDepth 10000 in
set_option maxHeartbeats 1000000 in
theorem rread_256 (w : World) :
    Calls Tryd.prog 25 #[.agg (rowOf 65 (stF S)), .int .i64 256] w fun e w' => e = .returned (.tuple #[.int .u64 (bits .and .u64 (S.C 0) 786722), .bool true]) ∧ Kept w w' := by
  go_enter Tryd.func25, Tryd.ntmps25
  go_wp2_with fail
  refine (ridx_any 256 _).mono ?_
  rintro e w1 ⟨rfl, k1⟩
  have hc := ((st_new w S).kept k1).c (i := 0) (by omega)
  rw [idx_256]
  go_wp2
  go_ret2
  exact ⟨rfl, kept_boxed k1⟩
set_option maxRecDepth 10000 in
set_option maxHeartbeats 1000000 in
theorem rread_260 (w : World) :
    Calls Tryd.prog 25 #[.agg (rowOf 65 (stF S)), .int .i64 260] w fun e w' => e = .returned (.tuple #[.int .u64 (bits .and .u64 (S.C 3) 544), .bool true]) ∧ Kept w w' := by
  go_enter Tryd.func25, Tryd.ntmps25
  go_wp2_with fail
  refine (ridx_any 260 _).mono ?_
  rintro e w1 ⟨rfl, k1⟩
  have hc := ((st_new w S).kept k1).c (i := 3) (by omega)
  rw [idx_260]
  go_wp2
  go_ret2
  exact ⟨rfl, kept_boxed k1⟩
set_option maxRecDepth 10000 in
set_option maxHeartbeats 1000000 in
theorem rread_516 (w : World) :
    Calls Tryd.prog 25 #[.agg (rowOf 65 (stF S)), .int .i64 516] w fun e w' => e = .returned (.tuple #[.int .u64 (bits .and .u64 (S.C 3) 1088 / 2), .bool true]) ∧ Kept w w' := by
  have hU : U (bits .and .u64 (S.C 3) 1088) := U_wrap _
  have hU0 := hU.1
  go_enter Tryd.func25, Tryd.ntmps25
  go_wp2_with fail
  refine (ridx_any 516 _).mono ?_
  rintro e w1 ⟨rfl, k1⟩
  have hc := ((st_new w S).kept k1).c (i := 3) (by omega)
  rw [idx_516]
  go_wp2
  go_ret2
  exact ⟨rfl, kept_boxed k1⟩
set_option maxRecDepth 10000 in
set_option maxHeartbeats 1000000 in
theorem rread_3074 (w : World) :
    Calls Tryd.prog 25 #[.agg (rowOf 65 (stF S)), .int .i64 3074] w fun e w' => e = .returned (.tuple #[.int .u64 (S.done), .bool true]) ∧ Kept w w' := by
  go_enter Tryd.func25, Tryd.ntmps25
  go_wp2_with fail
  refine (ridx_any 3074 _).mono ?_
  rintro e w1 ⟨rfl, k1⟩
  have hc := ((st_new w S).kept k1).cell (i := 64) (by omega)
  rw [stF_done] at hc
  rw [idx_3074]
  go_wp2
  go_ret2
  exact ⟨rfl, kept_boxed k1⟩
set_option maxRecDepth 10000 in
set_option maxHeartbeats 1000000 in
theorem rread_no8 (n : Int) (h : idxI n = -1) (n1 : ¬ n = 256) (n2 : ¬ n = 260) (n3 : ¬ n = 516) (n4 : ¬ n = 3074) (w : World) :
    Calls Tryd.prog 25 #[.agg (rowOf 65 (stF S)), .int .i64 n] w fun e w' => e = .returned (.tuple #[.int .u64 0, .bool false]) ∧ Kept w w' := by
  have m1 : (n == 256) = false := beq_eq_false_iff_ne.2 n1
  have m2 : (n == 260) = false := beq_eq_false_iff_ne.2 n2
  have m3 : (n == 516) = false := beq_eq_false_iff_ne.2 n3
  have m4 : (n == 3074) = false := beq_eq_false_iff_ne.2 n4
  clear n1 n2 n3 n4
  go_enter Tryd.func25, Tryd.ntmps25
  go_wp2_with fail
  refine (ridx_any n _).mono ?_
  rintro e w1 ⟨rfl, k1⟩
  rw [h]
  go_wp2
  go_ret2
  exact ⟨rfl, kept_boxed k1⟩
theorem rread_any8 (n : Int) (w : World) :
    Calls Tryd.prog 25 #[.agg (rowOf 65 (stF S)), .int .i64 n] w fun e w' => e = .returned (.tuple #[.int .u64 (rdC S n), .bool (okC n)]) ∧ Kept w w' := by
  by_cases h : 0 ≤ idxI n
  · obtain ⟨i, hi, he, _⟩ := idx_yes h
    obtain ⟨e1, e2⟩ := rdC_in (S := S) he
    rw [e1, e2]
    exact rread_in8 n i hi he w
  · have he := (idx_no h).1
    by_cases n1 : n = 256
    · subst n1; exact rread_256 w
    · by_cases n2 : n = 260
      · subst n2; exact rread_260 w
      · by_cases n3 : n = 516
        · subst n3; exact rread_516 w
        · by_cases n4 : n = 3074
          · subst n4; exact rread_3074 w
          · have e1 : rdC S n = 0 := by unfold rdC; rw [if_neg h, if_neg n1, if_neg n2, if_neg n3, if_neg n4]
            have e2 : okC n = false := decide_eq_false (by rintro (x | x | x | x | x); exact h x; exact n1 x; exact n2 x; exact n3 x; exact n4 x)
            rw [e1, e2]
            exact rread_no8 n he n1 n2 n3 n4 w
end
end Go.Proofs.YthmanpfooegbcaaDoor
