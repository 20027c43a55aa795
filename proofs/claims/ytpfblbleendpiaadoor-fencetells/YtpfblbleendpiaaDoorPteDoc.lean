/-
  Entries of tables, as the document tells them. Plain facts: no call of the program is walked here.
-/
import Derived.Test.YtpfblbleendpiaaDoorPDigits
import Derived.Test.YtpfblbleendpiaaDoorBits
namespace Go.Proofs.YtpfblbleendpiaaDoor
open Go.RowKit
/-- A bit of a number, of either kind. -/
def gb (x : Int) (i : Nat) : Bool := (BitVec.ofInt 64 x).getLsbD i
theorem two_pow (i : Nat) : BitVec.ofInt 64 ((2 ^ i : Nat) : Int) = BitVec.twoPow 64 i := by
  apply BitVec.eq_of_toNat_eq
  rw [BitVec.toNat_twoPow, BitVec.toNat_ofInt]
  omega
theorem one_bit (x : Int) (i : Nat) : (BitVec.ofInt 64 x &&& BitVec.ofInt 64 ((2 ^ i : Nat) : Int)).toNat = if gb x i then 2 ^ i % 2 ^ 64 else 0 := by
  rw [two_pow, BitVec.and_twoPow]
  unfold gb
  split
  · rw [BitVec.toNat_twoPow]
  · rfl
theorem pow_lt (i : Nat) (hi : i < 63) : 0 < 2 ^ i ∧ 2 ^ i < 2 ^ 63 := ⟨Nat.pow_pos (by decide), Nat.pow_lt_pow_right (by decide) hi⟩
theorem u_and_bit (x : Int) (i : Nat) (hi : i < 63) (m : Int) (hm : m = ((2 ^ i : Nat) : Int)) : bits .and .u64 x m = if gb x i then m else 0 := by
  subst hm
  obtain ⟨p0, p1⟩ := pow_lt i hi
  rw [bits_and, one_bit]
  cases gb x i
  · rfl
  · simp only [if_true]
    omega
theorem i_and (x y : Int) : bits .and .i64 x y = IntKind.i64.wrap ((BitVec.ofInt 64 x &&& BitVec.ofInt 64 y).toNat : Int) := rfl
theorem i_and_bit (x : Int) (i : Nat) (hi : i < 63) (m : Int) (hm : m = ((2 ^ i : Nat) : Int)) : bits .and .i64 x m = if gb x i then m else 0 := by
  subst hm
  obtain ⟨p0, p1⟩ := pow_lt i hi
  rw [i_and, one_bit]
  generalize 2 ^ i = p at p0 p1 ⊢
  have e : p % 2 ^ 64 = p := by omega
  rw [e]
  cases gb x i
  · rfl
  · show IntKind.i64.wrap (p : Int) = p
    rw [IntKind.wrap_i64]
    omega
/-- Tests of one bit, as the program asks them. -/
theorem u_no (x : Int) (i : Nat) (hi : i < 63) (m : Int) (hm : m = ((2 ^ i : Nat) : Int)) : (bits .and .u64 x m == 0) = !gb x i := by
  rw [u_and_bit x i hi m hm]
  obtain ⟨p0, p1⟩ := pow_lt i hi
  cases gb x i
  · rfl
  · exact beq_eq_false_iff_ne.2 (show m ≠ 0 by omega)
theorem u_is (x : Int) (i : Nat) (hi : i < 63) (m : Int) (hm : m = ((2 ^ i : Nat) : Int)) : (bits .and .u64 x m != 0) = gb x i := by
  rw [bne, u_no x i hi m hm, Bool.not_not]
theorem i_no (x : Int) (i : Nat) (hi : i < 63) (m : Int) (hm : m = ((2 ^ i : Nat) : Int)) : (bits .and .i64 x m == 0) = !gb x i := by
  rw [i_and_bit x i hi m hm]
  obtain ⟨p0, p1⟩ := pow_lt i hi
  cases gb x i
  · rfl
  · exact beq_eq_false_iff_ne.2 (show m ≠ 0 by omega)
theorem i_is (x : Int) (i : Nat) (hi : i < 63) (m : Int) (hm : m = ((2 ^ i : Nat) : Int)) : (bits .and .i64 x m != 0) = gb x i := by
  rw [bne, i_no x i hi m hm, Bool.not_not]
theorem u_one (x : Int) : (bits .and .u64 x 1 == 1) = gb x 0 := by
  rw [u_and_bit x 0 (by omega) 1 rfl]
  cases gb x 0 <;> rfl
/-- The lowest bits of a number. -/
theorem low_mask (x : Int) (n : Nat) (hn : n < 63) : (BitVec.ofInt 64 x &&& BitVec.ofInt 64 ((2 ^ n - 1 : Nat) : Int)).toNat = (x % ((2 ^ n : Nat) : Int)).toNat := by
  obtain ⟨p0, p1⟩ := pow_lt n hn
  rw [BitVec.toNat_and, BitVec.toNat_ofInt, BitVec.toNat_ofInt]
  have e : (((2 ^ n - 1 : Nat) : Int) % ((2 ^ 64 : Nat) : Int)).toNat = 2 ^ n - 1 := by omega
  rw [e, Nat.and_two_pow_sub_one_eq_mod]
  obtain ⟨y, hy⟩ : ∃ y : Nat, (x % ((2 ^ 64 : Nat) : Int)) = (y : Int) := ⟨(x % ((2 ^ 64 : Nat) : Int)).toNat, by omega⟩
  rw [hy, Int.toNat_natCast]
  have hd : ((2 ^ n : Nat) : Int) ∣ ((2 ^ 64 : Nat) : Int) := by exact_mod_cast Nat.pow_dvd_pow 2 (by omega : n ≤ 64)
  have h2 : x % ((2 ^ n : Nat) : Int) = (y : Int) % ((2 ^ n : Nat) : Int) := by rw [← hy, Int.emod_emod_of_dvd _ hd]
  rw [h2]
  exact_mod_cast rfl
theorem u_low (x : Int) (n : Nat) (hn : n < 63) (m : Int) (hm : m = ((2 ^ n - 1 : Nat) : Int)) : bits .and .u64 x m = x % ((2 ^ n : Nat) : Int) := by
  subst hm
  obtain ⟨p0, p1⟩ := pow_lt n hn
  rw [bits_and, low_mask x n hn]
  have := Int.emod_nonneg x (show ((2 ^ n : Nat) : Int) ≠ 0 by omega)
  omega
theorem i_low (x : Int) (n : Nat) (hn : n < 63) (m : Int) (hm : m = ((2 ^ n - 1 : Nat) : Int)) : bits .and .i64 x m = x % ((2 ^ n : Nat) : Int) := by
  subst hm
  obtain ⟨p0, p1⟩ := pow_lt n hn
  rw [i_and, low_mask x n hn, IntKind.wrap_i64]
  have h0 := Int.emod_nonneg x (show ((2 ^ n : Nat) : Int) ≠ 0 by omega)
  have h1 := Int.emod_lt_of_pos x (show (0 : Int) < ((2 ^ n : Nat) : Int) by omega)
  omega
end Go.Proofs.YtpfblbleendpiaaDoor
