/-
  What statement AluSteps asks: shifted step by step, walked for every argument.
-/
import Derived.Test.YtbeehnfmhclbmaaDoorAMath
namespace Go.Proofs.YtbeehnfmhclbmaaDoor
open Go.RowKit
set_option maxRecDepth 100000 in
set_option maxHeartbeats 4000000 in
theorem asteps_any (a m n : Int) (ha : U a) (hm0 : 0 ≤ m) (hm1 : m ≤ 255) (hn0 : 0 ≤ n) (hn1 : n ≤ 255) (w : World) (hT : Tab5 w) :
    Calls Tryd.prog 8 #[.int .u64 a, .int .u8 m, .int .u8 n] w fun e w' => e = .returned (.bool true) ∧ Grown w w' := by
  have x0 : 0 ≤ m % 32 := by omega
  have x1 : m % 32 < 32 := by omega
  have y0 : 0 ≤ n % 32 := by omega
  have y1 : n % 32 < 32 := by omega
  have ux : U (m % 32) := low_U (by omega) (by omega)
  have uy : U (n % 32) := low_U (by omega) (by omega)
  have us : U (m % 32 + n % 32) := low_U (by omega) (by omega)
  have ur : U (64 + m % 32) := by unfold U; omega
  have f1 : (doI 37 (doI 37 a (m % 32)) (n % 32) == doI 37 a (m % 32 + n % 32)) = true := yes_beq (steps_up ha x0 x1 y0 y1)
  have f2 : (doI 41 (doI 41 a (m % 32)) (n % 32) == doI 41 a (m % 32 + n % 32)) = true := yes_beq (steps_down ha x0 x1 y0 y1)
  have f3 : (doI 42 (doI 42 a (m % 32)) (n % 32) == doI 42 a (m % 32 + n % 32)) = true := yes_beq (steps_sign ha x0 x1 y0 y1)
  have f4 : (doI 37 a (64 + m % 32) == doI 37 a (m % 32)) = true := yes_beq steps_round
  skip
  all_goals
    go_enter Tryd.func8, Tryd.ntmps8
    go_wp2_with fail
    refine (known5_any _ hT).mono ?_
    rintro e w1 ⟨rfl, hg1⟩
    go_wp2_with (first | (go_at_call 10; refine (do_from hT _ _ _ (by first | assumption | exact U_do (by first | assumption | exact U_do (by assumption))) (by assumption) (by assumption)).mono ?_; rintro e w' ⟨rfl, hq⟩))
    go_ret
    exact ⟨rfl, GG.g (by assumption)⟩
end Go.Proofs.YtbeehnfmhclbmaaDoor
