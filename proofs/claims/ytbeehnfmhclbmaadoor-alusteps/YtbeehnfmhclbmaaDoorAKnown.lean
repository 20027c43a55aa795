/-
  The examples that every statement of layer 5 asks first (known) hold; the calls of package alu, handed on from one to the next.
-/
import Derived.Test.YtbeehnfmhclbmaaDoorAluDo
import Derived.Deep.RegionHeld3
namespace Go.Proofs.YtbeehnfmhclbmaaDoor
open Go.RowKit
theorem yes_U (c : Bool) : U (yesI c) := by cases c <;> (unfold U yesI; simp)
theorem U_ite {c : Prop} [Decidable c] {x y : Int} (hx : U x) (hy : U y) : U (if c then x else y) := by
  split
  · exact hx
  · exact hy
theorem U_do {op a b : Int} (ha : U a) : U (doI op a b) := by
  have h0 : U 0 := by unfold U; omega
  unfold doI
  exact U_ite (U_wrap _) (U_ite (U_wrap _) (U_ite (yes_U _) (U_ite (yes_U _) (U_ite (U_xor _ _) (U_ite (U_or _ _) (U_ite (U_and _ _) (U_ite (U_wrap _) (U_ite (U_shr ha _) (U_ite (U_wrap _) (U_ite (U_sext _ _) (U_ite (U_sext _ _) (U_ite (U_sext _ _) (U_ite (U_sext _ _) (U_ite (U_wrap _) h0))))))))))))))
theorem do_from {W : World} (hT : Tab5 W) (op a b : Int) (ha : U a) (hb : U b) {w : World} (hg : GG W w) :
    Calls Tryd.prog 10 #[.int .i64 op, .int .u64 a, .int .u64 b] w fun e w' => e = .returned (.int .u64 (doI op a b)) ∧ GG W w' :=
  (do_any op a b ha hb w (hT.grown hg.g)).mono fun _ _ h => ⟨h.1, ⟨Grown.trans' hg.g h.2⟩⟩
theorem ka1 : (doI 45 2147483647 1 == 18446744071562067968) = true := by decide +kernel
theorem ka2 : (doI 0 1 1 == 0) = true := by decide +kernel
theorem ka3 : takenB 7 18446744073709551615 0 = true := by decide +kernel
theorem ka4 : takenB 9 18446744073709551615 0 = false := by decide +kernel
theorem ka5 : (csrI 56 7 2 == 5) = true := by decide +kernel
theorem ka6 : (extI 11 128 == 18446744073709551488) = true := by decide +kernel
theorem ka7 : (extI 15 384 == 128) = true := by decide +kernel
theorem U_lit {n : Int} (h : (decide (0 ≤ n) && decide (n < 18446744073709551616)) = true) : U n := by
  unfold U; simpa using h
set_option maxHeartbeats 1000000 in
theorem known5_any (w : World) (hT : Tab5 w) :
    Calls Tryd.prog 9 #[] w fun e w' => e = .returned (.bool true) ∧ GG w w' := by
  have h1 := ka1
  have h2 := ka2
  have h3 := ka3
  have h4 := ka4
  have h5 := ka5
  have h6 := ka6
  have h7 := ka7
  have hg0 : GG w w := ⟨Grown.refl _⟩
  go_enter Tryd.func9, Tryd.ntmps9
  go_wp2_with fail
  refine (do_from hT _ _ _ (U_lit (by decide)) (U_lit (by decide)) hg0).mono ?_
  rintro e w1 ⟨rfl, hg1⟩
  go_wp2_with fail
  refine (do_from hT _ _ _ (U_lit (by decide)) (U_lit (by decide)) hg1).mono ?_
  rintro e w2 ⟨rfl, hg2⟩
  go_wp2_with (first | (go_at_call 12; refine (taken_any _ _ _ _).mono ?_; rintro e w' ⟨rfl, rfl⟩) | (go_at_call 14; refine (csr_any _ _ _ _).mono ?_; rintro e w' ⟨rfl, rfl⟩) | (go_at_call 16; refine (ext_any _ _ (U_lit (by decide)) _).mono ?_; rintro e w' ⟨rfl, rfl⟩))
  go_ret
  exact ⟨rfl, hg2⟩
end Go.Proofs.YtbeehnfmhclbmaaDoor
