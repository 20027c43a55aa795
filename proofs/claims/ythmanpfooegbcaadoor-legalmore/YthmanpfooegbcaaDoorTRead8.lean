/-
  What package csr's Read answers: walked whole, for every argument, where the listed tables' cells stand.
-/
import Derived.Test.YthmanpfooegbcaaDoorTWin
import Derived.Deep.QuietTactic
import Derived.BigQuiet
namespace Go.Proofs.YthmanpfooegbcaaDoor
open Go.RowKit
section
variable {S : StM} {w : World}
set_option maxRecDepth 10000 in
set_option maxHeartbeats 1000000 in
theorem cread_in (hT : TabC w) (hS : S.Ok) (n : Int) (i : Nat) (hi : i < 29) (he : idxI n = i) :
    Calls Tryd.prog 22 #[.agg (rowOf 65 (stF S)), .int .i64 n] w fun e w' => e = .returned (.tuple #[.int .u64 (S.C i), .bool true]) ∧ Kept w w' := by
  have l0 : (0 : Int) ≤ (i : Int) := by omega
  have l1 : (i : Int) < 29 := by omega
  have hq : (n == 3074) = false := beq_eq_false_iff_ne.2 (by rintro rfl; rw [idx_3074] at he; omega)
  have ha := and_all (hS.C i hi)
  go_enter Tryd.func22, Tryd.ntmps22
  go_wp2_with fail
  refine (win_in (hT.kept ((Only.refl _ w).alloc _)) n i hi he).mono ?_
  rintro e w1 ⟨rfl, k1⟩
  have hc := (((st_new w S).kept k1).more (.cells #[.int .i64 i, .int .u64 18446744073709551615, .int .u64 (maskI i), .int .u8 0] 62)).c hi
  unfold winA
  go_wp2
  go_quiet (fail)
  go_wp2
  go_ret2
  exact ⟨rfl, ((kept_boxed k1).alloc _).drewN _⟩
set_option maxRecDepth 10000 in
set_option maxHeartbeats 1000000 in
theorem cread_256 (hT : TabC w)  :
    Calls Tryd.prog 22 #[.agg (rowOf 65 (stF S)), .int .i64 256] w fun e w' => e = .returned (.tuple #[.int .u64 (bits .and .u64 (S.C 0) 786722), .bool true]) ∧ Kept w w' := by
  go_enter Tryd.func22, Tryd.ntmps22
  go_wp2_with fail
  refine (win_view (hT.kept ((Only.refl _ w).alloc _)) 0 (by omega) 256 rfl idx_256).mono ?_
  rintro e w1 ⟨rfl, k1⟩
  have hc := (((st_new w S).kept k1).more (.cells #[.int .i64 0, .int .u64 786722, .int .u64 786722, .int .u8 0] 62)).c (i := 0) (by omega)
  rw [show winA (vI 0) (vB 0) (vB 0) (vS 0) = #[.int .i64 0, .int .u64 786722, .int .u64 786722, .int .u8 0] from rfl]
  go_wp2
  go_quiet (fail)
  go_wp2
  go_ret2
  exact ⟨rfl, ((kept_boxed k1).alloc _).drewN _⟩
set_option maxRecDepth 10000 in
set_option maxHeartbeats 1000000 in
theorem cread_260 (hT : TabC w)  :
    Calls Tryd.prog 22 #[.agg (rowOf 65 (stF S)), .int .i64 260] w fun e w' => e = .returned (.tuple #[.int .u64 (bits .and .u64 (S.C 3) 544), .bool true]) ∧ Kept w w' := by
  go_enter Tryd.func22, Tryd.ntmps22
  go_wp2_with fail
  refine (win_view (hT.kept ((Only.refl _ w).alloc _)) 1 (by omega) 260 rfl idx_260).mono ?_
  rintro e w1 ⟨rfl, k1⟩
  have hc := (((st_new w S).kept k1).more (.cells #[.int .i64 3, .int .u64 544, .int .u64 544, .int .u8 0] 62)).c (i := 3) (by omega)
  rw [show winA (vI 1) (vB 1) (vB 1) (vS 1) = #[.int .i64 3, .int .u64 544, .int .u64 544, .int .u8 0] from rfl]
  go_wp2
  go_quiet (fail)
  go_wp2
  go_ret2
  exact ⟨rfl, ((kept_boxed k1).alloc _).drewN _⟩
set_option maxRecDepth 10000 in
set_option maxHeartbeats 1000000 in
theorem cread_516 (hT : TabC w)  :
    Calls Tryd.prog 22 #[.agg (rowOf 65 (stF S)), .int .i64 516] w fun e w' => e = .returned (.tuple #[.int .u64 (bits .and .u64 (S.C 3) 1088 / 2), .bool true]) ∧ Kept w w' := by
  have hU0 := (U_and (S.C 3) 1088).1
  go_enter Tryd.func22, Tryd.ntmps22
  go_wp2_with fail
  refine (win_view (hT.kept ((Only.refl _ w).alloc _)) 2 (by omega) 516 rfl idx_516).mono ?_
  rintro e w1 ⟨rfl, k1⟩
  have hc := (((st_new w S).kept k1).more (.cells #[.int .i64 3, .int .u64 1088, .int .u64 1088, .int .u8 1] 62)).c (i := 3) (by omega)
  rw [show winA (vI 2) (vB 2) (vB 2) (vS 2) = #[.int .i64 3, .int .u64 1088, .int .u64 1088, .int .u8 1] from rfl]
  go_wp2
  go_quiet (fail)
  go_wp2
  go_ret2
  exact ⟨rfl, ((kept_boxed k1).alloc _).drewN _⟩
set_option maxRecDepth 10000 in
set_option maxHeartbeats 1000000 in
theorem cread_3074 :
    Calls Tryd.prog 22 #[.agg (rowOf 65 (stF S)), .int .i64 3074] w fun e w' => e = .returned (.tuple #[.int .u64 S.done, .bool true]) ∧ Kept w w' := by
  have hc := (st_new w S).cell (i := 64) (by omega)
  rw [stF_done] at hc
  go_enter Tryd.func22, Tryd.ntmps22
  go_wp2
  go_ret2
  exact ⟨rfl, (Only.refl _ w).alloc _⟩
set_option maxRecDepth 10000 in
set_option maxHeartbeats 1000000 in
theorem cread_no (hT : TabC w) (n : Int) (he : idxI n = -1) (n1 : ¬ n = 256) (n2 : ¬ n = 260) (n3 : ¬ n = 516) (n4 : ¬ n = 3074) :
    Calls Tryd.prog 22 #[.agg (rowOf 65 (stF S)), .int .i64 n] w fun e w' => e = .returned (.tuple #[.int .u64 0, .bool false]) ∧ Kept w w' := by
  have m4 : (n == 3074) = false := beq_eq_false_iff_ne.2 n4
  have hno : ∀ j : Nat, j < 3 → vN j ≠ n := by
    intro j hj
    have : j = 0 ∨ j = 1 ∨ j = 2 := by omega
    rcases this with rfl | rfl | rfl
    · exact fun e => n1 e.symm
    · exact fun e => n2 e.symm
    · exact fun e => n3 e.symm
  clear n1 n2 n3 n4
  go_enter Tryd.func22, Tryd.ntmps22
  go_wp2_with fail
  refine (win_no (hT.kept ((Only.refl _ w).alloc _)) n hno he).mono ?_
  rintro e w1 ⟨rfl, k1⟩
  unfold winA
  go_wp2
  go_ret2
  exact ⟨rfl, (kept_boxed k1).alloc _⟩
theorem cread_c (hT : TabC w) (hS : S.Ok) (n : Int) :
    Calls Tryd.prog 22 #[.agg (rowOf 65 (stF S)), .int .i64 n] w fun e w' => e = .returned (.tuple #[.int .u64 (rdC S n), .bool (okC n)]) ∧ Kept w w' := by
  by_cases h : 0 ≤ idxI n
  · obtain ⟨i, hi, he, _⟩ := idx_yes h
    obtain ⟨e1, e2⟩ := rdC_in (S := S) he
    rw [e1, e2]
    exact cread_in hT hS n i hi he
  · have he := (idx_no h).1
    by_cases n1 : n = 256
    · subst n1; exact cread_256 hT
    · by_cases n2 : n = 260
      · subst n2; exact cread_260 hT
      · by_cases n3 : n = 516
        · subst n3; exact cread_516 hT
        · by_cases n4 : n = 3074
          · subst n4; exact cread_3074
          · have e1 : rdC S n = 0 := by unfold rdC; rw [if_neg h, if_neg n1, if_neg n2, if_neg n3, if_neg n4]
            have e2 : okC n = false := decide_eq_false (by rintro (x | x | x | x | x); exact h x; exact n1 x; exact n2 x; exact n3 x; exact n4 x)
            rw [e1, e2]
            exact cread_no hT n he n1 n2 n3 n4
end
end Go.Proofs.YthmanpfooegbcaaDoor
