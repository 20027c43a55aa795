/-
  What statement AluBack asks: added and taken away again, turned twice, both halves of a shift, walked for every argument.
-/
import Derived.Test.YtbeehnfmhclbmaaDoorAMath
namespace Go.Proofs.YtbeehnfmhclbmaaDoor
open Go.RowKit
set_option maxRecDepth 100000 in
set_option maxHeartbeats 4000000 in
theorem aback_any (a b : Int) (ha : U a) (hb : U b) (w : World) (hT : Tab5 w) :
    Calls Tryd.prog 4 #[.int .u64 a, .int .u64 b] w fun e w' => e = .returned (.bool true) ∧ Grown w w' := by
  have h0 : 0 ≤ b % 64 := by omega
  have h1 : b % 64 < 64 := by omega
  have hn : U (b % 64) := low_U h0 h1
  have hb63 : bits .and .u64 b 63 = b % 64 := bits_mask .u64 64 (by decide) wraps_u64 6 (by decide) b hb.1 hb.2
  have f1 : (doI 36 (doI 35 a b) b == a) = true := yes_beq (back_sub ha)
  have f2 : (doI 40 (doI 40 a b) b == a) = true := yes_beq (back_xor ha hb)
  have f3 : (IntKind.u64.wrap (doI 37 (doI 41 a (b % 64)) (b % 64) + bits .and .u64 a (IntKind.u64.wrap (IntKind.u64.wrap (2 ^ (b % 64).toNat) - 1))) == a) = true := yes_beq (back_shift ha)
  have f4 : (IntKind.u64.wrap (doI 43 a b + doI 44 a b) == doI 35 a b) = true := yes_beq (back_sum ha hb)
  have f5 : (doI 22 a b == doI 35 a b) = true := yes_beq back_addi
  have f6 : (doI 37 a b == IntKind.u64.wrap (a * 2 ^ (b % 64).toNat)) = true := yes_beq back_up
  have f7 : (doI 42 a b == IntKind.u64.wrap (wrap64 a / 2 ^ (b % 64).toNat)) = true := yes_beq back_down
  skip
  all_goals
    go_enter Tryd.func4, Tryd.ntmps4
    go_wp2_with fail
    refine (known5_any _ hT).mono ?_
    rintro e w1 ⟨rfl, hg1⟩
    go_wp2_with (first | (go_at_call 10; refine (do_from hT _ _ _ (by first | assumption | exact U_do (by first | assumption | exact U_do (by assumption))) (by assumption) (by assumption)).mono ?_; rintro e w' ⟨rfl, hq⟩))
    go_ret
    exact ⟨rfl, GG.g (by assumption)⟩
end Go.Proofs.YtbeehnfmhclbmaaDoor
