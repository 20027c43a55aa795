/-
  What statement AluOrder asks: of two words one is below, or they are equal; branches go just one way; walked for every argument.
-/
import Derived.Test.YtbeehnfmhclbmaaDoorAMath
namespace Go.Proofs.YtbeehnfmhclbmaaDoor
open Go.RowKit
theorem slt_at {a b : Int} : doI 38 a b = yesI (decide (wrap64 a < wrap64 b)) := by
  simp only [doI, Int.reduceEq, if_true, if_false, or_true, or_self]
theorem sltu_at {a b : Int} : doI 39 a b = yesI (decide (a < b)) := by
  simp only [doI, Int.reduceEq, if_true, if_false, or_true, or_self]
theorem slti_at {a b : Int} : doI 23 a b = yesI (decide (wrap64 a < wrap64 b)) := by
  simp only [doI, Int.reduceEq, if_true, if_false, or_false, or_self]
theorem sltiu_at {a b : Int} : doI 24 a b = yesI (decide (a < b)) := by
  simp only [doI, Int.reduceEq, if_true, if_false, or_false, or_self]
theorem yes_one (c : Bool) : (yesI c == 1) = c := by cases c <;> rfl
theorem blt_at {a b : Int} : takenB 7 a b = decide (wrap64 a < wrap64 b) := by
  simp only [takenB, Int.reduceEq, if_true, if_false]
theorem bge_at {a b : Int} : takenB 8 a b = !decide (wrap64 a < wrap64 b) := by
  simp only [takenB, Int.reduceEq, if_true, if_false]
theorem bltu_at {a b : Int} : takenB 9 a b = decide (a < b) := by
  simp only [takenB, Int.reduceEq, if_true, if_false]
theorem bgeu_at {a b : Int} : takenB 10 a b = decide (b ≤ a) := by
  simp only [takenB, Int.reduceEq, if_true, if_false]
theorem w64_inj {a b : Int} (ha : U a) (hb : U b) (h : wrap64 a = wrap64 b) : a = b := by
  unfold wrap64 at h; unfold U at ha hb; omega
theorem one_sum {x y : Bool} (h : (x ^^ y) = true) : IntKind.u64.wrap (yesI x + yesI y) = 1 := by
  cases x <;> cases y <;> simp at h <;> decide
set_option maxRecDepth 100000 in
set_option maxHeartbeats 4000000 in
theorem aorder_any (a b : Int) (ha : U a) (hb : U b) (w : World) (hT : Tab5 w) :
    Calls Tryd.prog 5 #[.int .u64 a, .int .u64 b] w fun e w' => e = .returned (.bool true) ∧ Grown w w' := by
  have f3 : (takenB 7 a b == (doI 38 a b == 1)) = true := by rw [blt_at, slt_at, yes_one]; simp
  have f4 : (takenB 8 a b == (doI 38 a b == 1)) = false := by rw [bge_at, slt_at, yes_one]; cases decide (wrap64 a < wrap64 b) <;> rfl
  have f5 : (takenB 9 a b == (doI 39 a b == 1)) = true := by rw [bltu_at, sltu_at, yes_one]; simp
  have f6 : (takenB 10 a b == (doI 39 a b == 1)) = false := by
    rw [bgeu_at, sltu_at, yes_one]
    by_cases h : a < b
    · rw [decide_eq_true h, decide_eq_false (show ¬ b ≤ a by omega)]; rfl
    · rw [decide_eq_false h, decide_eq_true (show b ≤ a by omega)]; rfl
  have f4' := ne_of_beq_false f4
  have f6' := ne_of_beq_false f6
  have f7 : (doI 38 a b == doI 23 a b) = true := yes_beq (by rw [slt_at, slti_at])
  have f8 : (doI 39 a b == doI 24 a b) = true := yes_beq (by rw [sltu_at, sltiu_at])
  by_cases h : a = b
  · have g0 : (a == b) = true := yes_beq h
    have g1 : takenB 5 a b = true := by simp only [takenB, if_true, g0]
    have g2 : takenB 6 a b = false := by simp only [takenB, Int.reduceEq, if_true, if_false, bne, g0, Bool.not_true]
    have g3 : doI 38 a b = 0 := by rw [slt_at, h, decide_eq_false (show ¬ wrap64 b < wrap64 b by omega)]; rfl
    have g4 : doI 38 b a = 0 := by rw [slt_at, h, decide_eq_false (show ¬ wrap64 b < wrap64 b by omega)]; rfl
    have g5 : doI 39 a b = 0 := by rw [sltu_at, h, decide_eq_false (show ¬ b < b by omega)]; rfl
    have g6 : doI 39 b a = 0 := by rw [sltu_at, h, decide_eq_false (show ¬ b < b by omega)]; rfl
    have s1 : (IntKind.u64.wrap (IntKind.u64.wrap (doI 38 a b + doI 38 b a) + 1) == 1) = true := by rw [g3, g4]; rfl
    have s2 : (IntKind.u64.wrap (IntKind.u64.wrap (doI 39 a b + doI 39 b a) + 1) == 1) = true := by rw [g5, g6]; rfl
    clear g3 g4 g5 g6 h
    go_enter Tryd.func5, Tryd.ntmps5
    go_wp2_with fail
    refine (known5_any _ hT).mono ?_
    rintro e w1 ⟨rfl, hg1⟩
    go_wp2_with (first | (go_at_call 10; refine (do_from hT _ _ _ (by assumption) (by assumption) (by assumption)).mono ?_; rintro e w' ⟨rfl, hq⟩) | (go_at_call 12; refine (taken_any _ _ _ _).mono ?_; rintro e w' ⟨rfl, rfl⟩))
    go_ret
    exact ⟨rfl, GG.g (by assumption)⟩
  · have g0 : (a == b) = false := beq_eq_false_iff_ne.2 h
    have g1 : takenB 5 a b = false := by simp only [takenB, if_true, g0]
    have g2 : takenB 6 a b = true := by simp only [takenB, Int.reduceEq, if_true, if_false, bne, g0, Bool.not_false]
    have hw : ¬ wrap64 a = wrap64 b := fun e => h (w64_inj ha hb e)
    have s1 : (IntKind.u64.wrap (doI 38 a b + doI 38 b a) == 1) = true := yes_beq (by
      rw [slt_at, slt_at]
      refine one_sum ?_
      by_cases h1 : wrap64 a < wrap64 b
      · rw [decide_eq_true h1, decide_eq_false (show ¬ wrap64 b < wrap64 a by omega)]; rfl
      · rw [decide_eq_false h1, decide_eq_true (show wrap64 b < wrap64 a by omega)]; rfl)
    have s2 : (IntKind.u64.wrap (doI 39 a b + doI 39 b a) == 1) = true := yes_beq (by
      rw [sltu_at, sltu_at]
      refine one_sum ?_
      by_cases h1 : a < b
      · rw [decide_eq_true h1, decide_eq_false (show ¬ b < a by omega)]; rfl
      · rw [decide_eq_false h1, decide_eq_true (show b < a by omega)]; rfl)
    have z1 : IntKind.u64.wrap (IntKind.u64.wrap (doI 38 a b + doI 38 b a)) = IntKind.u64.wrap (doI 38 a b + doI 38 b a) := wrap_id (U_wrap _)
    have z2 : IntKind.u64.wrap (IntKind.u64.wrap (doI 39 a b + doI 39 b a)) = IntKind.u64.wrap (doI 39 a b + doI 39 b a) := wrap_id (U_wrap _)
    clear h hw
    go_enter Tryd.func5, Tryd.ntmps5
    go_wp2_with fail
    refine (known5_any _ hT).mono ?_
    rintro e w1 ⟨rfl, hg1⟩
    go_wp2_with (first | (go_at_call 10; refine (do_from hT _ _ _ (by assumption) (by assumption) (by assumption)).mono ?_; rintro e w' ⟨rfl, hq⟩) | (go_at_call 12; refine (taken_any _ _ _ _).mono ?_; rintro e w' ⟨rfl, rfl⟩))
    go_ret
    exact ⟨rfl, GG.g (by assumption)⟩
end Go.Proofs.YtbeehnfmhclbmaaDoor
