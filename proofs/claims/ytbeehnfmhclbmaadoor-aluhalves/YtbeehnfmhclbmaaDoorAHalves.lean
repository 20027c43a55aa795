/-
  What statement AluHalves asks: operations of 32 bits are those of 64 on what is below, walked for every argument.
-/
import Derived.Test.YtbeehnfmhclbmaaDoorAMath
namespace Go.Proofs.YtbeehnfmhclbmaaDoor
open Go.RowKit
set_option maxRecDepth 100000 in
set_option maxHeartbeats 4000000 in
theorem ahalves_any (a b : Int) (ha : U a) (hb : U b) (w : World) (hT : Tab5 w) :
    Calls Tryd.prog 6 #[.int .u64 a, .int .u64 b] w fun e w' => e = .returned (.bool true) ∧ Grown w w' := by
  have hn : U (b % 32) := low_U (by omega) (by omega)
  have hs : U (sextI a 32) := U_sext _ _
  have hm : U (a % 4294967296) := by unfold U; omega
  have hb31 : bits .and .u64 b 31 = b % 32 := bits_mask .u64 64 (by decide) wraps_u64 5 (by decide) b hb.1 hb.2
  have ha32 : bits .and .u64 a 4294967295 = a % 4294967296 := bits_mask .u64 64 (by decide) wraps_u64 32 (by decide) a ha.1 ha.2
  have f1 : (doI 45 a b == sextI (doI 35 a b) 32) = true := yes_beq half_s
  have f2 : (doI 46 a b == sextI (doI 36 a b) 32) = true := yes_beq half_d
  have f3 : (doI 47 a b == sextI (doI 37 a (b % 32)) 32) = true := yes_beq half_l
  have f4 : (doI 48 a b == sextI (doI 41 (a % 4294967296) (b % 32)) 32) = true := yes_beq half_r
  have f5 : (doI 49 a b == doI 42 (sextI a 32) (b % 32)) = true := yes_beq half_q
  have f6 : (doI 31 a b == sextI (doI 35 a b) 32) = true := yes_beq half_i
  have f7 : (extI 13 a == sextI a 32) = true := yes_beq half_lw
  have f8 : (extI 17 a == a % 4294967296) = true := yes_beq half_lwu
  skip
  all_goals
    go_enter Tryd.func6, Tryd.ntmps6
    go_wp2_with fail
    refine (known5_any _ hT).mono ?_
    rintro e w1 ⟨rfl, hg1⟩
    go_wp2_with (first | (go_at_call 10; refine (do_from hT _ _ _ (by first | assumption | exact U_do (by first | assumption | exact U_do (by assumption))) (by assumption) (by assumption)).mono ?_; rintro e w' ⟨rfl, hq⟩) | (go_at_call 18; refine (half_any _ _).mono ?_; rintro e w' ⟨rfl, rfl⟩) | (go_at_call 16; refine (ext_any _ _ (by assumption) _).mono ?_; rintro e w' ⟨rfl, rfl⟩))
    go_ret
    exact ⟨rfl, GG.g (by assumption)⟩
end Go.Proofs.YtbeehnfmhclbmaaDoor
