/-
  What statement AluBits asks: and, or, exclusive or, bit by bit, walked for every argument.
-/
import Derived.Test.YtbeehnfmhclbmabDoorAKnown
namespace Go.Proofs.YtbeehnfmhclbmabDoor
open Go.RowKit
theorem yes_beq {x y : Int} (h : x = y) : (x == y) = true := beq_iff_eq.2 h
theorem low_U {n : Int} (h0 : 0 ≤ n) (h1 : n < 64) : U n := by unfold U; omega
/-- A bit of a word, as a number. -/
def bitI (x : Int) (k : Nat) : Int := yesI (tb x k)
theorem bit_at {x : Int} (hx : U x) (k : Nat) : bits .and .u64 (x / 2 ^ k) 1 = bitI x k := by
  have h1 : bits .and .u64 (x / 2 ^ k) 1 = x / 2 ^ k % 2 := bits_mask .u64 64 (by decide) wraps_u64 1 (by decide) _ (U_shr hx k).1 (U_shr hx k).2
  rw [h1]
  obtain ⟨X, rfl, hX⟩ := hx.nat
  unfold bitI tb
  rw [Int.toNat_natCast, Nat.testBit_eq_decide_div_mod_eq]
  have e : ((X : Int) / 2 ^ k) = ((X / 2 ^ k : Nat) : Int) := by simp
  rw [e]
  by_cases h : X / 2 ^ k % 2 = 1
  · rw [decide_eq_true h]; show _ = (1 : Int); omega
  · rw [decide_eq_false h]; show _ = (0 : Int); omega
theorem and_at {a b : Int} : doI 44 a b = bits .and .u64 a b := by
  simp only [doI, Int.reduceEq, if_true, if_false, or_true, or_self]
theorem or_at {a b : Int} : doI 43 a b = bits .or .u64 a b := by
  simp only [doI, Int.reduceEq, if_true, if_false, or_true, or_self]
theorem xor_at {a b : Int} : doI 40 a b = bits .xor .u64 a b := by
  simp only [doI, Int.reduceEq, if_true, if_false, or_true, or_self]
theorem andi_at {a b : Int} : doI 27 a b = bits .and .u64 a b := by
  simp only [doI, Int.reduceEq, if_true, if_false, or_false, or_self]
theorem ori_at {a b : Int} : doI 26 a b = bits .or .u64 a b := by
  simp only [doI, Int.reduceEq, if_true, if_false, or_false, or_self]
theorem xori_at {a b : Int} : doI 25 a b = bits .xor .u64 a b := by
  simp only [doI, Int.reduceEq, if_true, if_false, or_false, or_self]
theorem bit_bd (x : Int) (k : Nat) : 0 ≤ bitI x k ∧ bitI x k ≤ 1 := by
  unfold bitI; cases tb x k <;> (unfold yesI; simp)
theorem bit_and {a b : Int} (ha : U a) (hb : U b) (k : Nat) : bitI (doI 44 a b) k = bitI a k * bitI b k := by
  rw [and_at]; unfold bitI; rw [tb_and ha hb]; cases tb a k <;> cases tb b k <;> rfl
theorem bit_or {a b : Int} (ha : U a) (hb : U b) (k : Nat) : bitI (doI 43 a b) k = IntKind.u64.wrap (bitI a k + bitI b k - bitI a k * bitI b k) := by
  rw [or_at]; unfold bitI; rw [tb_or ha hb]; cases tb a k <;> cases tb b k <;> decide
theorem bit_xor {a b : Int} (ha : U a) (hb : U b) (k : Nat) : bitI (doI 40 a b) k = (bitI a k + bitI b k) % 2 := by
  rw [xor_at]; unfold bitI; rw [tb_xor ha hb]; cases tb a k <;> cases tb b k <;> rfl
set_option maxRecDepth 100000 in
set_option maxHeartbeats 4000000 in
theorem abits_any (a b at0 : Int) (ha : U a) (hb : U b) (h0 : 0 ≤ at0) (h1 : at0 ≤ 255) (w : World) (hT : Tab5 w) :
    Calls Tryd.prog 3 #[.int .u64 a, .int .u64 b, .int .u8 at0] w fun e w' => e = .returned (.bool true) ∧ Grown w w' := by
  have k0 : 0 ≤ at0 % 64 := by omega
  have k1 : at0 % 64 < 64 := by omega
  have p := bit_at ha (at0 % 64).toNat
  have q := bit_at hb (at0 % 64).toNat
  have r1 := bit_at (U_do (op := 44) (b := b) ha) (at0 % 64).toNat
  have r2 := bit_at (U_do (op := 43) (b := b) ha) (at0 % 64).toNat
  have r3 := bit_at (U_do (op := 40) (b := b) ha) (at0 % 64).toNat
  have ⟨p0, p1⟩ := bit_bd a (at0 % 64).toNat
  have ⟨q0, q1⟩ := bit_bd b (at0 % 64).toNat
  have m0 : 0 ≤ bitI a (at0 % 64).toNat * bitI b (at0 % 64).toNat := Int.mul_nonneg p0 q0
  have m1 : bitI a (at0 % 64).toNat * bitI b (at0 % 64).toNat ≤ 1 := by rw [← bit_and ha hb]; exact (bit_bd _ _).2
  have f1 : (bitI (doI 44 a b) (at0 % 64).toNat == bitI a (at0 % 64).toNat * bitI b (at0 % 64).toNat) = true := yes_beq (bit_and ha hb _)
  have f2 : (bitI (doI 43 a b) (at0 % 64).toNat == IntKind.u64.wrap (bitI a (at0 % 64).toNat + bitI b (at0 % 64).toNat - bitI a (at0 % 64).toNat * bitI b (at0 % 64).toNat)) = true := yes_beq (bit_or ha hb _)
  have f3 : (bitI (doI 40 a b) (at0 % 64).toNat == (bitI a (at0 % 64).toNat + bitI b (at0 % 64).toNat) % 2) = true := yes_beq (bit_xor ha hb _)
  have f4 : (doI 27 a b == doI 44 a b) = true := yes_beq (by rw [andi_at, and_at])
  have f5 : (doI 26 a b == doI 43 a b) = true := yes_beq (by rw [ori_at, or_at])
  have f6 : (doI 25 a b == doI 40 a b) = true := yes_beq (by rw [xori_at, xor_at])
  go_enter Tryd.func3, Tryd.ntmps3
  go_wp2_with fail
  refine (known5_any _ hT).mono ?_
  rintro e w1 ⟨rfl, hg1⟩
  go_wp2_with (go_at_call 5; refine (do_from hT _ _ _ (by assumption) (by assumption) (by assumption)).mono ?_; rintro e w' ⟨rfl, hq⟩)
  go_ret
  exact ⟨rfl, GG.g (by assumption)⟩
end Go.Proofs.YtbeehnfmhclbmabDoor
