/-
  The order of words with signs: what statement WordOrder asks, walked for every three words.
-/
import Derived.Test.YtnmlkhecjohepaaKnown
namespace Go.Proofs.Ytnmlkhecjohepaa
open Go.RowKit
theorem top_xor (Y : Nat) (h : Y < 2 ^ 63) : 2 ^ 63 + Y = 2 ^ 63 ^^^ Y := by
  have h0 := Nat.two_pow_add_eq_or_of_lt h 1
  rw [Nat.mul_one] at h0
  rw [h0]
  apply Nat.eq_of_testBit_eq
  intro i
  rw [Nat.testBit_or, Nat.testBit_xor, Nat.testBit_two_pow]
  by_cases hi : 63 = i
  · subst hi; rw [Nat.testBit_lt_two_pow h]; rfl
  · simp [hi]
theorem xor_top {a : Int} (ha : U a) : bits .xor .u64 a 9223372036854775808 = wrap64 a + 9223372036854775808 := by
  obtain ⟨X, rfl, hX⟩ := ha.nat
  have h := bits_xor_u64_nat X 9223372036854775808 (by omega) (by omega)
  have e : ((9223372036854775808 : Nat) : Int) = 9223372036854775808 := rfl
  rw [e] at h
  rw [h]
  unfold wrap64
  by_cases hx : X < 2 ^ 63
  · have := top_xor X hx
    rw [Nat.xor_comm] at this
    rw [show (9223372036854775808 : Nat) = 2 ^ 63 from rfl, ← this]; omega
  · obtain ⟨Y, rfl⟩ : ∃ Y, X = 2 ^ 63 + Y := ⟨X - 2 ^ 63, by omega⟩
    have e2 : (2 ^ 63 + Y) ^^^ 9223372036854775808 = Y := by
      rw [top_xor Y (by omega), show (9223372036854775808 : Nat) = 2 ^ 63 from rfl, Nat.xor_comm, ← Nat.xor_assoc, Nat.xor_self, Nat.zero_xor]
    rw [e2]; omega
set_option linter.unusedVariables false in
set_option maxHeartbeats 1000000 in
theorem order_walk (a b c : Int) (p q r s t : Bool) (h1 : decide (wrap64 a < wrap64 b) = p) (h2 : decide (wrap64 b < wrap64 c) = q) (h3 : decide (wrap64 a < wrap64 c) = r) (h4 : decide (wrap64 b < wrap64 a) = s) (h5 : (a == b) = t)
   (h6 : decide (wrap64 a < wrap64 a) = false) (h7 : decide (bits .xor .u64 a 9223372036854775808 < bits .xor .u64 b 9223372036854775808) = p) (h8 : (!p || !q || r) = true) (h9 : (p || s || t) = true) (w : World) :
    Calls Try.prog 8 #[.int .u64 a, .int .u64 b, .int .u64 c] w fun e w' => e = .returned (.bool true) ∧ Grown w w' := by
  cases p <;> cases q <;> cases r <;> cases s <;> cases t <;> first | (exfalso; revert h8; decide) | (exfalso; revert h9; decide) | skip
  all_goals
    clear h8 h9
    go_enter Try.func8, Try.ntmps8
    go_wp2_with (first | (go_at_call 9; refine (known_any _).mono ?_; rintro e w' ⟨rfl, hg⟩) | (go_at_call 22; refine (high_any _ _ _).mono ?_; rintro e w' ⟨rfl, rfl⟩))
    go_ret
    exact ⟨rfl, hg⟩
theorem U_of_wf {a : Int} (h : (Lit.int .u64 a).wf = true) : U a := by
  have e1 : IntKind.u64.min = 0 := by decide
  have e2 : IntKind.u64.max = 18446744073709551615 := by decide
  simp only [Lit.wf, e1, e2, Bool.and_eq_true, decide_eq_true_eq] at h
  unfold U; omega
theorem order_any (a b c : Int) (ha : U a) (hb : U b) (w : World) :
    Calls Try.prog 8 #[.int .u64 a, .int .u64 b, .int .u64 c] w fun e w' => e = .returned (.bool true) ∧ Grown w w' := by
  refine order_walk a b c _ _ _ _ _ rfl rfl rfl rfl rfl (by simp) ?_ ?_ ?_ w
  · rw [xor_top ha, xor_top hb]
    congr 1
    exact propext ⟨fun h => by omega, fun h => by omega⟩
  · simp only [Bool.or_eq_true, Bool.not_eq_true', decide_eq_true_eq, decide_eq_false_iff_not]; omega
  · simp only [Bool.or_eq_true, decide_eq_true_eq, beq_iff_eq]
    unfold U at ha hb
    unfold wrap64
    omega
end Go.Proofs.Ytnmlkhecjohepaa
