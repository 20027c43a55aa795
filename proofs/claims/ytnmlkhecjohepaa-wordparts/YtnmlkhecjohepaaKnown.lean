/-
  The examples that every statement of layer 1 asks first (known) hold: each is reckoned, and the call comes back with true.
-/
import Derived.Test.YtnmlkhecjohepaaBits
namespace Go.Proofs.Ytnmlkhecjohepaa
open Go.RowKit
theorem k1 : (sextI 255 8 == 18446744073709551615) = true := by decide +kernel
theorem k2 : (zextI 511 8 == 255) = true := by decide +kernel
theorem k3 : (bitsI 2748 4 4 == 11) = true := by decide +kernel
theorem k4 : (setI 0 4 8 511 == 4080) = true := by decide +kernel
theorem k5 : (getI [1, 2] 0 4 == 513) = true := by decide +kernel
theorem k6 : ((bytesI 513 3).toList == [1, 2, 0]) = true := by decide +kernel
theorem k7 : decide (wrap64 18446744073709551615 < wrap64 0) = true := by decide +kernel
set_option maxHeartbeats 1000000 in
theorem known_any (w : World) :
    Calls Try.prog 9 #[] w fun e w' => e = .returned (.bool true) ∧ Grown w w' := by
  have h1 := k1
  have h2 := k2
  have h3 := k3
  have h4 := k4
  have h5 := k5
  have h6 := k6
  have h7 := k7
  go_enter Try.func9, Try.ntmps9
  go_wp2_with fail
  refine (sext_any _ _ _).mono ?_
  rintro e w' ⟨rfl, rfl⟩
  go_wp2_with fail
  refine (zext_any _ _ _).mono ?_
  rintro e w' ⟨rfl, rfl⟩
  go_wp2_with fail
  refine (bits_any _ _ _ _).mono ?_
  rintro e w' ⟨rfl, rfl⟩
  go_wp2_with fail
  refine (set_any _ _ _ _ _).mono ?_
  rintro e w' ⟨rfl, rfl⟩
  go_wp2_with fail
  refine (get_any _ _ _ (by decide) _).mono ?_
  rintro e w1 ⟨rfl, hg⟩
  go_wp2_with fail
  refine (bytes_any _ _ _).mono ?_
  rintro e w2 ⟨rfl, hg2⟩
  go_wp2_with fail
  refine (high_any _ _ _).mono ?_
  rintro e w3 ⟨rfl, rfl⟩
  go_wp2_with fail
  go_ret
  exact ⟨rfl, Grown.trans' hg hg2⟩
end Go.Proofs.Ytnmlkhecjohepaa
