/-
  What package decode's Format and Opcode answer: walked whole, for every argument.
-/
import Derived.Test.YtdogjmimjjmmaaaDoorIsBase
import Derived.Test.YtdogjmimjjmmaaaDoorDecWord
namespace Go.Proofs.YtdogjmimjjmmaaaDoor
open Go.RowKit
/-- The letter of an operation's format, as P3.1 tells it. -/
def fmtI (op : Int) : Int := if clsI op = 0 then 45 else if op ≤ 2 then 85 else if op = 3 then 74 else if clsI op = 2 then 66 else if clsI op = 4 then 83 else if clsI op = 6 ∨ clsI op = 11 ∨ clsI op = 12 then 82 else 73
theorem cls_pos {op : Int} (h : clsI op ≠ 0) : 1 ≤ op ∧ op < 70 := by
  unfold clsI at h
  split at h
  · exact absurd rfl h
  · omega
set_option maxHeartbeats 2000000 in
theorem format_any (op : Int) (w : World) (hT : TabI w) :
    Calls Tryd.prog 39 #[.int .i64 op] w fun e w' => e = .returned (.int .u8 (fmtI op)) ∧ Grown w w' := by
  have h1 : op = 1 → fmtI op = 85 := by rintro rfl; decide +kernel
  have h2 : op = 2 → fmtI op = 85 := by rintro rfl; decide +kernel
  have h3 : op = 3 → fmtI op = 74 := by rintro rfl; decide +kernel
  have hc0 : clsI op = 0 → fmtI op = 45 := fun h => by unfold fmtI; rw [if_pos h]
  have hc : clsI op ≠ 0 → ¬ op = 1 → ¬ op = 2 → ¬ op = 3 → fmtI op = if clsI op = 2 then 66 else if clsI op = 4 then 83 else if clsI op = 6 ∨ clsI op = 11 ∨ clsI op = 12 then 82 else 73 := fun h a b c => by
    have := cls_pos h
    unfold fmtI
    rw [if_neg h, if_neg (by omega), if_neg (by omega)]
  go_enter Tryd.func39, Tryd.ntmps39
  go_wp2_with (go_at_call 43; refine (class_in _ _ hT).mono ?_; rintro e w' ⟨rfl, hg⟩)
  all_goals
    go_ret
    simp only [beq_iff_eq, beq_eq_false_iff_ne, ne_eq] at *
    first
      | exact ⟨ret_int (h1 (by assumption)).symm, Grown.refl _⟩
      | exact ⟨ret_int (h2 (by assumption)).symm, Grown.refl _⟩
      | exact ⟨ret_int (h3 (by assumption)).symm, Grown.refl _⟩
      | exact ⟨ret_int (hc0 (by assumption)).symm, hg⟩
      | (refine ⟨ret_int ?_, hg⟩; rw [hc (by assumption) (by assumption) (by assumption) (by assumption)]; repeat (first | rw [if_pos (by omega)] | rw [if_neg (by omega)]))
end Go.Proofs.YtdogjmimjjmmaaaDoor
