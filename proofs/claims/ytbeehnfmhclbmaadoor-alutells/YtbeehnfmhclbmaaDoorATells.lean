/-
  What statement AluTells asks: the calls of package alu against the document, walked for every argument.
-/
import Derived.Test.YtbeehnfmhclbmaaDoorAMath
namespace Go.Proofs.YtbeehnfmhclbmaaDoor
open Go.RowKit
set_option maxRecDepth 100000 in
set_option maxHeartbeats 4000000 in
theorem atells_any (op a b : Int) (ha : U a) (hb : U b) (w : World) (hT : Tab5 w) :
    Calls Tryd.prog 3 #[.int .i64 op, .int .u64 a, .int .u64 b] w fun e w' => e = .returned (.bool true) ∧ Grown w w' := by
  have f1 : (doI op a b == doI op a b) = true := yes_beq rfl
  have f2 : (takenB op a b == takenB op a b) = true := beq_self_eq_true _
  have f3 : (csrI op a b == csrI op a b) = true := yes_beq rfl
  have f4 : (extI op a == extI op a) = true := yes_beq rfl
  skip
  all_goals
    go_enter Tryd.func3, Tryd.ntmps3
    go_wp2_with fail
    refine (known5_any _ hT).mono ?_
    rintro e w1 ⟨rfl, hg1⟩
    go_wp2_with (first | (go_at_call 10; refine (do_from hT _ _ _ (by first | assumption | exact U_do (by first | assumption | exact U_do (by assumption))) (by assumption) (by assumption)).mono ?_; rintro e w' ⟨rfl, hq⟩) | (go_at_call 11; refine (rdo_any _ _ _ ha hb _).mono ?_; rintro e w' ⟨rfl, rfl⟩) | (go_at_call 12; refine (taken_any _ _ _ _).mono ?_; rintro e w' ⟨rfl, rfl⟩) | (go_at_call 13; refine (rtaken_any _ _ _ _).mono ?_; rintro e w' ⟨rfl, rfl⟩) | (go_at_call 14; refine (csr_any _ _ _ _).mono ?_; rintro e w' ⟨rfl, rfl⟩) | (go_at_call 15; refine (rcsr_any _ _ _ _).mono ?_; rintro e w' ⟨rfl, rfl⟩) | (go_at_call 16; refine (ext_any _ _ (by assumption) _).mono ?_; rintro e w' ⟨rfl, rfl⟩) | (go_at_call 17; refine (rext_any _ _ ha _).mono ?_; rintro e w' ⟨rfl, rfl⟩))
    go_ret
    exact ⟨rfl, GG.g (by assumption)⟩
end Go.Proofs.YtbeehnfmhclbmaaDoor
