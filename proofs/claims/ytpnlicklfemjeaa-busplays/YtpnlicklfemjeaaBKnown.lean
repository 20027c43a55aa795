/-
  The examples that every statement of layer 7 asks first (known) hold.
-/
import Derived.Test.YtpnlicklfemjeaaBusFace
namespace Go.Proofs.Ytpnlicklfemjeaa
open Go.RowKit
def k0 : BusM := .new (fun _ => 0)
def k1 : BusM := wrN k0 61952 1 120
def k2 : BusM := typN k1 0 [105, 110]
def k3 : BusM := rdN k2 61696 1
def k4 : BusM := ⟨7, k3.a, k3.P, k3.B⟩
def k5 : BusM := ⟨7, 7, k3.P, k3.B⟩
theorem y1 : wrB 61952 1 = true := by decide
theorem y2 : timB k0 = false := by decide
theorem y3 : outS k1 1 = ⟨#[120]⟩ := by rfl
theorem y4 : rdV k2 61696 1 = 105 := by rfl
theorem y5 : rdB 61696 1 = true := by decide
theorem y6 : rdB 32768 1 = false := by decide
theorem y7 : rdN k3 32768 1 = k3 := by rfl
theorem y8 : rdV k4 61440 8 = 7 := by rfl
theorem y9 : rdB 61440 8 = true := by decide
theorem y10 : rdN k4 61440 8 = k4 := by rfl
theorem y11 : wrB 61440 8 = false := by decide
theorem y12 : wrN k4 61440 8 1 = k4 := by rfl
theorem y13 : wrB 61448 8 = true := by decide
theorem y14 : wrN k4 61448 8 7 = k5 := by rfl
theorem y15 : timB k5 = true := by decide
theorem y16 : devB 61440 = true := by decide
theorem y17 : devB 32767 = false := by decide
theorem y18 : outS k5 9 = ⟨#[]⟩ := by rfl
set_option maxRecDepth 10000 in
set_option maxHeartbeats 1000000 in
theorem known7_any (w : World) :
    Calls Try.prog 8 #[] w fun e w' => e = .returned (.bool true) ∧ Kept w w' := by
  go_enter Try.func8, Try.ntmps8
  go_wp2_with fail
  refine (one_new (Only.refl _ w)).mono ?_
  rintro e w1 ⟨b, rfl, s1⟩
  rw [show BusM.new (fun _ => 0) = k0 from rfl] at s1
  go_wp2_with fail
  refine (one_timer s1).mono ?_
  rintro e w2 ⟨rfl, s2⟩
  rw [y2]
  go_wp2_with fail
  refine (one_write s2 _ _ _ (U_lit (by decide))).mono ?_
  rintro e w3 ⟨rfl, s3⟩
  rw [show wrN k0 61952 1 120 = k1 from rfl] at s3
  rw [y1]
  go_wp2_with fail
  refine (one_out s3 _).mono ?_
  rintro e w4 ⟨rfl, s4⟩
  rw [y3]
  go_wp2_with fail
  refine (one_type s4 _ _).mono ?_
  rintro e w5 ⟨rfl, s5⟩
  rw [show typN k1 0 (ByteArray.mk #[105, 110]).data.toList = k2 from rfl] at s5
  go_wp2_with fail
  refine (one_read s5 _ _ (U_lit (by decide))).mono ?_
  rintro e w6 ⟨rfl, s6⟩
  rw [show rdN k2 61696 1 = k3 from rfl] at s6
  rw [y4, y5]
  go_wp2_with fail
  refine (one_read s6 _ _ (U_lit (by decide))).mono ?_
  rintro e w7 ⟨rfl, s7⟩
  rw [y7] at s7
  rw [y6]
  go_wp2_with fail
  refine (one_set s7 _).mono ?_
  rintro e w8 ⟨rfl, s8⟩
  rw [show BusM.mk 7 k3.a k3.P k3.B = k4 from rfl] at s8
  go_wp2_with fail
  refine (one_read s8 _ _ (U_lit (by decide))).mono ?_
  rintro e w9 ⟨rfl, s9⟩
  rw [y10] at s9
  rw [y8, y9]
  go_wp2_with fail
  refine (one_write s9 _ _ _ (U_lit (by decide))).mono ?_
  rintro e w10 ⟨rfl, s10⟩
  rw [y12] at s10
  rw [y11]
  go_wp2_with fail
  refine (one_write s10 _ _ _ (U_lit (by decide))).mono ?_
  rintro e w11 ⟨rfl, s11⟩
  rw [y14] at s11
  rw [y13]
  go_wp2_with fail
  refine (one_timer s11).mono ?_
  rintro e w12 ⟨rfl, s12⟩
  rw [y15]
  go_wp2_with fail
  refine (one_dev s12 _).mono ?_
  rintro e w13 ⟨rfl, s13⟩
  rw [y16]
  go_wp2_with fail
  refine (one_dev s13 _).mono ?_
  rintro e w14 ⟨rfl, s14⟩
  rw [y17]
  go_wp2_with fail
  refine (one_out s14 _).mono ?_
  rintro e w15 ⟨rfl, s15⟩
  rw [y18]
  go_wp2
  go_ret
  exact ⟨rfl, s15.k⟩
end Go.Proofs.Ytpnlicklfemjeaa
