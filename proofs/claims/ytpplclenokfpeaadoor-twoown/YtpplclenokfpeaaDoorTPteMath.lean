/-
  What package pte's own reckoning comes to, in the document's words. Plain facts: no call of the program is walked here.
-/
import Derived.Test.YtpplclenokfpeaaDoorRefMay
namespace Go.Proofs.YtpplclenokfpeaaDoor
open Go.RowKit
theorem lo8 : loI 8 = 8 := by decide
theorem lo0 : loI 0 = 0 := by decide
theorem many8 : manyI 8 8 = 8 := by decide
theorem many0 : manyI 0 8 = 8 := by decide
theorem frame_is (e : Int) : bitsI e 8 8 = frI e := by
  unfold bitsI
  rw [lo8, many8, show onesI 8 = 255 by decide]
  exact u_low (e / 256) 8 (by omega) 255 rfl
theorem tb_mak (f b : Int) (i : Nat) : tb (makI f b) i = if i < 8 then tb (IntKind.u64.wrap b) i else if i < 16 then tb (IntKind.u64.wrap f) (i - 8) else false := by
  obtain ⟨F, hF⟩ : ∃ F : Nat, IntKind.u64.wrap f = (F : Int) := ⟨(IntKind.u64.wrap f).toNat, by have := (U_wrap f).1; omega⟩
  obtain ⟨B, hB⟩ : ∃ B : Nat, IntKind.u64.wrap b = (B : Int) := ⟨(IntKind.u64.wrap b).toNat, by have := (U_wrap b).1; omega⟩
  rw [hF, hB]
  rw [IntKind.wrap_u64] at hF hB
  have e : (makI f b).toNat = 2 ^ 8 * (F % 2 ^ 8) + B % 2 ^ 8 := by unfold makI; omega
  unfold tb
  rw [e, Nat.testBit_two_pow_mul_add _ (Nat.mod_lt _ (by decide)), Nat.testBit_mod_two_pow, Nat.testBit_mod_two_pow]
  simp only [Int.toNat_natCast]
  by_cases h8 : i < 8
  · simp [h8]
  · rw [if_neg h8, if_neg h8]
    by_cases h16 : i < 16
    · rw [if_pos h16, decide_eq_true (show i - 8 < 8 by omega), Bool.true_and]
    · rw [if_neg h16, decide_eq_false (show ¬ i - 8 < 8 by omega), Bool.false_and]
theorem U_mak (f b : Int) : U (makI f b) := by unfold U makI; omega
theorem make_is (f b : Int) : setI (setI 0 0 8 (IntKind.u64.wrap b)) 8 8 (IntKind.u64.wrap f) = makI f b := by
  refine U.ext (U_set _ _ _ _) (U_mak f b) fun i hi => ?_
  have u0 : U 0 := by unfold U; omega
  rw [tb_mak, tb_set (U_set _ _ _ _) (U_wrap f) 8 8 i hi, tb_set u0 (U_wrap b) 0 8 i hi, lo8, lo0, many8, many0]
  have z : tb 0 i = false := by simp [tb]
  rw [z]
  by_cases h8 : i < 8
  · rw [if_pos h8, if_neg (by omega), if_pos (by omega)]
    simp
  · rw [if_neg h8]
    by_cases h16 : i < 16
    · rw [if_pos h16, if_pos (by omega)]
      rfl
    · rw [if_neg h16, if_neg (by omega), if_neg (by omega)]
theorem six_is (x : Int) : (bits .and .u64 x 6 != 4) = (!gb x 2 || gb x 1) := by
  have h : bits .and .u64 x 6 = ((BitVec.ofInt 64 x &&& 6#64).toNat : Int) := bits_and x 6
  rw [h]
  unfold gb
  generalize BitVec.ofInt 64 x = v
  have e : (v &&& 6#64) = (v &&& 2#64) ||| (v &&& 4#64) := by
    rw [← BitVec.and_or_distrib_left]
    rfl
  have e1 : v &&& 2#64 = if v.getLsbD 1 then 2#64 else 0#64 := BitVec.and_twoPow v 1
  have e3 : v &&& 4#64 = if v.getLsbD 2 then 4#64 else 0#64 := BitVec.and_twoPow v 2
  rw [e, e1, e3]
  cases v.getLsbD 1 <;> cases v.getLsbD 2 <;> rfl
theorem nat_range10 (v p n : Nat) : v &&& ((2 ^ n - 1) * 2 ^ p) = v / 2 ^ p % 2 ^ n * 2 ^ p := by
  apply Nat.eq_of_testBit_eq
  intro i
  rw [Nat.testBit_and, Nat.testBit_mul_two_pow, Nat.testBit_mul_two_pow, Nat.testBit_two_pow_sub_one, Nat.testBit_mod_two_pow, Nat.testBit_div_two_pow]
  by_cases hi : p ≤ i
  · rw [show i - p + p = i by omega]
    simp only [hi, decide_true, Bool.true_and]
    exact Bool.and_comm _ _
  · simp [hi]
/-- No bit but those that an entry can have. -/
theorem known_is {e : Int} (he : U e) : (bits .andNot .u64 e 65503 == 0) = ((e / 65536 == 0) && !gb e 5) := by
  have h5 := u_no e 5 (by omega) 32 rfl
  rw [← h5]
  obtain ⟨E, rfl, hE⟩ := he.nat
  have e1 : bits .andNot .u64 (E : Int) 65503 = ((E / 2 ^ 16 % 2 ^ 48 * 2 ^ 16 ||| E / 2 ^ 5 % 2 ^ 1 * 2 ^ 5 : Nat) : Int) := by
    rw [bits_andNot, ← nat_range10 E 16 48, ← nat_range10 E 5 1, ← Nat.and_or_distrib_left]
    rw [BitVec.toNat_and, BitVec.ofInt_natCast, BitVec.toNat_ofNat, Nat.mod_eq_of_lt hE]
    rfl
  have e2 : bits .and .u64 (E : Int) 32 = ((E / 2 ^ 5 % 2 ^ 1 * 2 ^ 5 : Nat) : Int) := by
    rw [bits_and, ← nat_range10 E 5 1, BitVec.toNat_and, BitVec.ofInt_natCast, BitVec.toNat_ofNat, Nat.mod_eq_of_lt hE]
    rfl
  rw [e1, e2]
  have hj : E / 2 ^ 16 % 2 ^ 48 * 2 ^ 16 ||| E / 2 ^ 5 % 2 ^ 1 * 2 ^ 5 = 2 ^ 16 * (E / 2 ^ 16 % 2 ^ 48) + E / 2 ^ 5 % 2 ^ 1 * 2 ^ 5 := by
    rw [Nat.mul_comm (E / 2 ^ 16 % 2 ^ 48), ← Nat.two_pow_add_eq_or_of_lt (by omega)]
  rw [hj, Bool.eq_iff_iff]
  simp only [Bool.and_eq_true, beq_iff_eq]
  omega
theorem i_eq (x : Int) (i : Nat) (hi : i < 63) (m : Int) (hm : m = ((2 ^ i : Nat) : Int)) : (bits .and .i64 x m == m) = gb x i := by
  rw [i_and_bit x i hi m hm]
  obtain ⟨p0, p1⟩ := pow_lt i hi
  cases gb x i
  · exact beq_eq_false_iff_ne.2 (show (0 : Int) ≠ m by omega)
  · simp
theorem i_wd (x : Int) : (bits .and .i64 x 132 == 132) = (gb x 2 && gb x 7) := by
  have h : bits .and .i64 x 132 = IntKind.i64.wrap ((BitVec.ofInt 64 x &&& 132#64).toNat : Int) := i_and x 132
  rw [h]
  unfold gb
  generalize BitVec.ofInt 64 x = v
  have e : (v &&& 132#64) = (v &&& 4#64) ||| (v &&& 128#64) := by
    rw [← BitVec.and_or_distrib_left]
    rfl
  have e1 : v &&& 4#64 = if v.getLsbD 2 then 4#64 else 0#64 := BitVec.and_twoPow v 2
  have e3 : v &&& 128#64 = if v.getLsbD 7 then 128#64 else 0#64 := BitVec.and_twoPow v 7
  rw [e, e1, e3]
  cases v.getLsbD 2 <;> cases v.getLsbD 7 <;> rfl
end Go.Proofs.YtpplclenokfpeaaDoor
