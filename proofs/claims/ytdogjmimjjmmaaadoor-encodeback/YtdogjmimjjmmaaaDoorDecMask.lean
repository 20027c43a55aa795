/-
  Words of 32 bits under the masks that tell operations, by division and remainder.
-/
import Derived.Test.YtdogjmimjjmmaaaDoorRows
import Derived.WalkKit
import Derived.Laws.BitsLemmas
import Derived.Lib.EndianBits
import Derived.Laws.Bits64b
namespace Go.Proofs.YtdogjmimjjmmaaaDoor
open Go.RowKit
theorem and1 {x : Int} (h0 : 0 ≤ x) (h1 : x < 4294967296) : bits .and .u32 x 1 = x % 2 := bits_mask .u32 32 (by decide) wraps_u32 1 (by decide) x h0 h1
theorem and3 {x : Int} (h0 : 0 ≤ x) (h1 : x < 4294967296) : bits .and .u32 x 3 = x % 4 := bits_mask .u32 32 (by decide) wraps_u32 2 (by decide) x h0 h1
theorem and7 {x : Int} (h0 : 0 ≤ x) (h1 : x < 4294967296) : bits .and .u32 x 7 = x % 8 := bits_mask .u32 32 (by decide) wraps_u32 3 (by decide) x h0 h1
theorem and15 {x : Int} (h0 : 0 ≤ x) (h1 : x < 4294967296) : bits .and .u32 x 15 = x % 16 := bits_mask .u32 32 (by decide) wraps_u32 4 (by decide) x h0 h1
theorem and31 {x : Int} (h0 : 0 ≤ x) (h1 : x < 4294967296) : bits .and .u32 x 31 = x % 32 := bits_mask .u32 32 (by decide) wraps_u32 5 (by decide) x h0 h1
theorem and63 {x : Int} (h0 : 0 ≤ x) (h1 : x < 4294967296) : bits .and .u32 x 63 = x % 64 := bits_mask .u32 32 (by decide) wraps_u32 6 (by decide) x h0 h1
theorem and127 {x : Int} (h0 : 0 ≤ x) (h1 : x < 4294967296) : bits .and .u32 x 127 = x % 128 := bits_mask .u32 32 (by decide) wraps_u32 7 (by decide) x h0 h1
theorem and255 {x : Int} (h0 : 0 ≤ x) (h1 : x < 4294967296) : bits .and .u32 x 255 = x % 256 := bits_mask .u32 32 (by decide) wraps_u32 8 (by decide) x h0 h1
theorem and1023 {x : Int} (h0 : 0 ≤ x) (h1 : x < 4294967296) : bits .and .u32 x 1023 = x % 1024 := bits_mask .u32 32 (by decide) wraps_u32 10 (by decide) x h0 h1
theorem and4095 {x : Int} (h0 : 0 ≤ x) (h1 : x < 4294967296) : bits .and .u32 x 4095 = x % 4096 := bits_mask .u32 32 (by decide) wraps_u32 12 (by decide) x h0 h1
theorem and_top {v : Int} (h0 : 0 ≤ v) (h1 : v < 4294967296) : bits .and .u32 v 4294963200 = v / 4096 * 4096 := by
  obtain ⟨a, rfl⟩ := Int.eq_ofNat_of_zero_le h0
  have ha : a < 2 ^ 32 := by omega
  have e := (bits_nat .u32 32 (by decide) wraps_u32 a 4294963200 ha (by decide)).1
  rw [show ((4294963200 : Nat) : Int) = 4294963200 from rfl] at e
  rw [e]
  have e2 : a &&& 4294963200 = a / 4096 * 4096 := by
    apply Nat.eq_of_testBit_eq
    intro i
    rw [Nat.testBit_and, show 4294963200 = (2 ^ 20 - 1) * 2 ^ 12 from rfl, Nat.testBit_mul_two_pow, show a / 4096 * 4096 = (a / 2 ^ 12) * 2 ^ 12 from rfl, Nat.testBit_mul_two_pow, Nat.testBit_two_pow_sub_one, Nat.testBit_div_two_pow]
    by_cases hi : 12 ≤ i
    · simp only [hi, decide_true, Bool.true_and]
      rw [show i - 12 + 12 = i by omega]
      by_cases hj : i - 12 < 20
      · simp [hj]
      · simp only [hj, decide_false, Bool.and_false]
        exact (Nat.testBit_lt_two_pow (Nat.lt_of_lt_of_le ha (Nat.pow_le_pow_right (by decide) (by omega)))).symm
    · simp [hi]
  rw [e2]
  omega
theorem or32 (i : Nat) {x y : Int} (hx0 : 0 ≤ x) (hx : x % 2 ^ i = 0) (hx1 : x < 4294967296) (hy0 : 0 ≤ y) (hy : y < 2 ^ i) (hy1 : y < 4294967296) : bits .or .u32 x y = x + y :=
  bits_join .u32 32 (by decide) wraps_u32 i x y hx0 hx hx1 hy0 hy hy1
theorem ro32 (i : Nat) {x y : Int} (hy0 : 0 ≤ y) (hy : y < 2 ^ i) (hy1 : y < 4294967296) (hx0 : 0 ≤ x) (hx : x % 2 ^ i = 0) (hx1 : x < 4294967296) : bits .or .u32 y x = y + x :=
  bits_join_low .u32 32 (by decide) wraps_u32 i y x hy0 hy hy1 hx0 hx hx1
/-- The number that the lowest n bits say, with its sign. -/
def sgn (x h : Int) : Int := if x < h then x else x - 2 * h
end Go.Proofs.YtdogjmimjjmmaaaDoor
namespace Go.Proofs.YtdogjmimjjmmaaaDoor
open Go.RowKit
theorem nat_range (v p n : Nat) : v &&& ((2 ^ n - 1) * 2 ^ p) = v / 2 ^ p % 2 ^ n * 2 ^ p := by
  apply Nat.eq_of_testBit_eq
  intro i
  rw [Nat.testBit_and, Nat.testBit_mul_two_pow, Nat.testBit_mul_two_pow, Nat.testBit_two_pow_sub_one, Nat.testBit_mod_two_pow, Nat.testBit_div_two_pow]
  by_cases hi : p ≤ i
  · rw [show i - p + p = i by omega]
    simp only [hi, decide_true, Bool.true_and]
    exact Bool.and_comm _ _
  · simp [hi]
theorem nat_join (lo hi p : Nat) (h : lo < 2 ^ p) : lo ||| hi * 2 ^ p = lo + hi * 2 ^ p := by
  rw [Nat.or_comm, Nat.mul_comm, ← Nat.two_pow_add_eq_or_of_lt h, Nat.add_comm]
theorem and_of_nat {v : Int} (h0 : 0 ≤ v) (h1 : v < 4294967296) (m : Nat) (hm : m < 4294967296) (x : Int) (hx : ((v.toNat &&& m : Nat) : Int) = x) : bits .and .u32 v (m : Int) = x := by
  obtain ⟨a, rfl⟩ := Int.eq_ofNat_of_zero_le h0
  have e := (bits_nat .u32 32 (by decide) wraps_u32 a m (by omega) (by omega)).1
  rw [e, ← hx]
  simp
theorem andNot_and (v : Int) {m m' : Int} (h : ~~~ (BitVec.ofInt 32 m) = BitVec.ofInt 32 m') : bits .andNot .u32 v m = bits .and .u32 v m' := by
  show IntKind.u32.wrap (((BitVec.ofInt 32 v &&& ~~~ BitVec.ofInt 32 m).toNat : Nat) : Int) = IntKind.u32.wrap (((BitVec.ofInt 32 v &&& BitVec.ofInt 32 m').toNat : Nat) : Int)
  rw [h]
theorem and_m1 {v : Int} (h0 : 0 ≤ v) (h1 : v < 4294967296) : bits .and .u32 v 127 = v % 128 := by
  refine and_of_nat h0 h1 127 (by decide) _ ?_
  rw [show (127 : Nat) = ((2 ^ 7 - 1) * 2 ^ 0) from by decide, nat_range _ 0 7]
  obtain ⟨a, rfl⟩ := Int.eq_ofNat_of_zero_le h0
  simp only [Int.toNat_natCast]
  omega
theorem and_m2 {v : Int} (h0 : 0 ≤ v) (h1 : v < 4294967296) : bits .and .u32 v 28799 = v % 128 + v / 4096 % 8 * 4096 := by
  refine and_of_nat h0 h1 28799 (by decide) _ ?_
  rw [show (28799 : Nat) = ((2 ^ 7 - 1) * 2 ^ 0) ||| ((2 ^ 3 - 1) * 2 ^ 12) from by decide, Nat.and_or_distrib_left, nat_range _ 0 7, nat_range _ 12 3]
  obtain ⟨a, rfl⟩ := Int.eq_ofNat_of_zero_le h0
  simp only [Int.toNat_natCast]
  rw [nat_join (a / 2 ^ 0 % 2 ^ 7 * 2 ^ 0) (a / 2 ^ 12 % 2 ^ 3) 12 (by omega)]
  omega
theorem and_m3 {v : Int} (h0 : 0 ≤ v) (h1 : v < 4294967296) : bits .and .u32 v 4227887231 = v % 128 + v / 4096 % 8 * 4096 + v / 67108864 * 67108864 := by
  refine and_of_nat h0 h1 4227887231 (by decide) _ ?_
  rw [show (4227887231 : Nat) = ((2 ^ 7 - 1) * 2 ^ 0) ||| ((2 ^ 3 - 1) * 2 ^ 12) ||| ((2 ^ 6 - 1) * 2 ^ 26) from by decide, Nat.and_or_distrib_left, Nat.and_or_distrib_left, nat_range _ 0 7, nat_range _ 12 3, nat_range _ 26 6]
  obtain ⟨a, rfl⟩ := Int.eq_ofNat_of_zero_le h0
  simp only [Int.toNat_natCast]
  rw [nat_join (a / 2 ^ 0 % 2 ^ 7 * 2 ^ 0) (a / 2 ^ 12 % 2 ^ 3) 12 (by omega)]
  rw [nat_join (a / 2 ^ 0 % 2 ^ 7 * 2 ^ 0 + a / 2 ^ 12 % 2 ^ 3 * 2 ^ 12) (a / 2 ^ 26 % 2 ^ 6) 26 (by omega)]
  omega
theorem and_m4 {v : Int} (h0 : 0 ≤ v) (h1 : v < 4294967296) : bits .and .u32 v 4261441663 = v % 128 + v / 4096 % 8 * 4096 + v / 33554432 * 33554432 := by
  refine and_of_nat h0 h1 4261441663 (by decide) _ ?_
  rw [show (4261441663 : Nat) = ((2 ^ 7 - 1) * 2 ^ 0) ||| ((2 ^ 3 - 1) * 2 ^ 12) ||| ((2 ^ 7 - 1) * 2 ^ 25) from by decide, Nat.and_or_distrib_left, Nat.and_or_distrib_left, nat_range _ 0 7, nat_range _ 12 3, nat_range _ 25 7]
  obtain ⟨a, rfl⟩ := Int.eq_ofNat_of_zero_le h0
  simp only [Int.toNat_natCast]
  rw [nat_join (a / 2 ^ 0 % 2 ^ 7 * 2 ^ 0) (a / 2 ^ 12 % 2 ^ 3) 12 (by omega)]
  rw [nat_join (a / 2 ^ 0 % 2 ^ 7 * 2 ^ 0 + a / 2 ^ 12 % 2 ^ 3 * 2 ^ 12) (a / 2 ^ 25 % 2 ^ 7) 25 (by omega)]
  omega
theorem and_m6 {v : Int} (h0 : 0 ≤ v) (h1 : v < 4294967296) : bits .and .u32 v 4261445631 = v % 128 + v / 128 % 32 * 128 + v / 4096 % 8 * 4096 + v / 33554432 * 33554432 := by
  refine and_of_nat h0 h1 4261445631 (by decide) _ ?_
  rw [show (4261445631 : Nat) = ((2 ^ 7 - 1) * 2 ^ 0) ||| ((2 ^ 5 - 1) * 2 ^ 7) ||| ((2 ^ 3 - 1) * 2 ^ 12) ||| ((2 ^ 7 - 1) * 2 ^ 25) from by decide, Nat.and_or_distrib_left, Nat.and_or_distrib_left, Nat.and_or_distrib_left, nat_range _ 0 7, nat_range _ 7 5, nat_range _ 12 3, nat_range _ 25 7]
  obtain ⟨a, rfl⟩ := Int.eq_ofNat_of_zero_le h0
  simp only [Int.toNat_natCast]
  rw [nat_join (a / 2 ^ 0 % 2 ^ 7 * 2 ^ 0) (a / 2 ^ 7 % 2 ^ 5) 7 (by omega)]
  rw [nat_join (a / 2 ^ 0 % 2 ^ 7 * 2 ^ 0 + a / 2 ^ 7 % 2 ^ 5 * 2 ^ 7) (a / 2 ^ 12 % 2 ^ 3) 12 (by omega)]
  rw [nat_join (a / 2 ^ 0 % 2 ^ 7 * 2 ^ 0 + a / 2 ^ 7 % 2 ^ 5 * 2 ^ 7 + a / 2 ^ 12 % 2 ^ 3 * 2 ^ 12) (a / 2 ^ 25 % 2 ^ 7) 25 (by omega)]
  omega
theorem and_m7 {v : Int} (h0 : 0 ≤ v) (h1 : v < 4294967296) : bits .and .u32 v 4293947519 = v % 128 + v / 4096 % 8 * 4096 + v / 1048576 % 32 * 1048576 + v / 33554432 * 33554432 := by
  refine and_of_nat h0 h1 4293947519 (by decide) _ ?_
  rw [show (4293947519 : Nat) = ((2 ^ 7 - 1) * 2 ^ 0) ||| ((2 ^ 3 - 1) * 2 ^ 12) ||| ((2 ^ 5 - 1) * 2 ^ 20) ||| ((2 ^ 7 - 1) * 2 ^ 25) from by decide, Nat.and_or_distrib_left, Nat.and_or_distrib_left, Nat.and_or_distrib_left, nat_range _ 0 7, nat_range _ 12 3, nat_range _ 20 5, nat_range _ 25 7]
  obtain ⟨a, rfl⟩ := Int.eq_ofNat_of_zero_le h0
  simp only [Int.toNat_natCast]
  rw [nat_join (a / 2 ^ 0 % 2 ^ 7 * 2 ^ 0) (a / 2 ^ 12 % 2 ^ 3) 12 (by omega)]
  rw [nat_join (a / 2 ^ 0 % 2 ^ 7 * 2 ^ 0 + a / 2 ^ 12 % 2 ^ 3 * 2 ^ 12) (a / 2 ^ 20 % 2 ^ 5) 20 (by omega)]
  rw [nat_join (a / 2 ^ 0 % 2 ^ 7 * 2 ^ 0 + a / 2 ^ 12 % 2 ^ 3 * 2 ^ 12 + a / 2 ^ 20 % 2 ^ 5 * 2 ^ 20) (a / 2 ^ 25 % 2 ^ 7) 25 (by omega)]
  omega
theorem and_r1 {v : Int} (h0 : 0 ≤ v) (h1 : v < 4294967296) : bits .and .u32 v 4294967168 = v / 128 * 128 := by
  refine and_of_nat h0 h1 4294967168 (by decide) _ ?_
  rw [show (4294967168 : Nat) = ((2 ^ 25 - 1) * 2 ^ 7) from by decide, nat_range _ 7 25]
  obtain ⟨a, rfl⟩ := Int.eq_ofNat_of_zero_le h0
  simp only [Int.toNat_natCast]
  omega
theorem not_m1 {v : Int} (h0 : 0 ≤ v) (h1 : v < 4294967296) : bits .andNot .u32 v 127 = v / 128 * 128 := by
  rw [andNot_and v (m' := 4294967168) (by decide)]
  exact and_r1 h0 h1
theorem and_r2 {v : Int} (h0 : 0 ≤ v) (h1 : v < 4294967296) : bits .and .u32 v 4294938496 = v / 128 % 32 * 128 + v / 32768 * 32768 := by
  refine and_of_nat h0 h1 4294938496 (by decide) _ ?_
  rw [show (4294938496 : Nat) = ((2 ^ 5 - 1) * 2 ^ 7) ||| ((2 ^ 17 - 1) * 2 ^ 15) from by decide, Nat.and_or_distrib_left, nat_range _ 7 5, nat_range _ 15 17]
  obtain ⟨a, rfl⟩ := Int.eq_ofNat_of_zero_le h0
  simp only [Int.toNat_natCast]
  rw [nat_join (a / 2 ^ 7 % 2 ^ 5 * 2 ^ 7) (a / 2 ^ 15 % 2 ^ 17) 15 (by omega)]
  omega
theorem not_m2 {v : Int} (h0 : 0 ≤ v) (h1 : v < 4294967296) : bits .andNot .u32 v 28799 = v / 128 % 32 * 128 + v / 32768 * 32768 := by
  rw [andNot_and v (m' := 4294938496) (by decide)]
  exact and_r2 h0 h1
theorem and_r3 {v : Int} (h0 : 0 ≤ v) (h1 : v < 4294967296) : bits .and .u32 v 67080064 = v / 128 % 32 * 128 + v / 32768 % 2048 * 32768 := by
  refine and_of_nat h0 h1 67080064 (by decide) _ ?_
  rw [show (67080064 : Nat) = ((2 ^ 5 - 1) * 2 ^ 7) ||| ((2 ^ 11 - 1) * 2 ^ 15) from by decide, Nat.and_or_distrib_left, nat_range _ 7 5, nat_range _ 15 11]
  obtain ⟨a, rfl⟩ := Int.eq_ofNat_of_zero_le h0
  simp only [Int.toNat_natCast]
  rw [nat_join (a / 2 ^ 7 % 2 ^ 5 * 2 ^ 7) (a / 2 ^ 15 % 2 ^ 11) 15 (by omega)]
  omega
theorem not_m3 {v : Int} (h0 : 0 ≤ v) (h1 : v < 4294967296) : bits .andNot .u32 v 4227887231 = v / 128 % 32 * 128 + v / 32768 % 2048 * 32768 := by
  rw [andNot_and v (m' := 67080064) (by decide)]
  exact and_r3 h0 h1
theorem and_r4 {v : Int} (h0 : 0 ≤ v) (h1 : v < 4294967296) : bits .and .u32 v 33525632 = v / 128 % 32 * 128 + v / 32768 % 1024 * 32768 := by
  refine and_of_nat h0 h1 33525632 (by decide) _ ?_
  rw [show (33525632 : Nat) = ((2 ^ 5 - 1) * 2 ^ 7) ||| ((2 ^ 10 - 1) * 2 ^ 15) from by decide, Nat.and_or_distrib_left, nat_range _ 7 5, nat_range _ 15 10]
  obtain ⟨a, rfl⟩ := Int.eq_ofNat_of_zero_le h0
  simp only [Int.toNat_natCast]
  rw [nat_join (a / 2 ^ 7 % 2 ^ 5 * 2 ^ 7) (a / 2 ^ 15 % 2 ^ 10) 15 (by omega)]
  omega
theorem not_m4 {v : Int} (h0 : 0 ≤ v) (h1 : v < 4294967296) : bits .andNot .u32 v 4261441663 = v / 128 % 32 * 128 + v / 32768 % 1024 * 32768 := by
  rw [andNot_and v (m' := 33525632) (by decide)]
  exact and_r4 h0 h1
theorem and_r6 {v : Int} (h0 : 0 ≤ v) (h1 : v < 4294967296) : bits .and .u32 v 33521664 = v / 32768 % 1024 * 32768 := by
  refine and_of_nat h0 h1 33521664 (by decide) _ ?_
  rw [show (33521664 : Nat) = ((2 ^ 10 - 1) * 2 ^ 15) from by decide, nat_range _ 15 10]
  obtain ⟨a, rfl⟩ := Int.eq_ofNat_of_zero_le h0
  simp only [Int.toNat_natCast]
  omega
theorem not_m6 {v : Int} (h0 : 0 ≤ v) (h1 : v < 4294967296) : bits .andNot .u32 v 4261445631 = v / 32768 % 1024 * 32768 := by
  rw [andNot_and v (m' := 33521664) (by decide)]
  exact and_r6 h0 h1
theorem and_r7 {v : Int} (h0 : 0 ≤ v) (h1 : v < 4294967296) : bits .and .u32 v 1019776 = v / 128 % 32 * 128 + v / 32768 % 32 * 32768 := by
  refine and_of_nat h0 h1 1019776 (by decide) _ ?_
  rw [show (1019776 : Nat) = ((2 ^ 5 - 1) * 2 ^ 7) ||| ((2 ^ 5 - 1) * 2 ^ 15) from by decide, Nat.and_or_distrib_left, nat_range _ 7 5, nat_range _ 15 5]
  obtain ⟨a, rfl⟩ := Int.eq_ofNat_of_zero_le h0
  simp only [Int.toNat_natCast]
  rw [nat_join (a / 2 ^ 7 % 2 ^ 5 * 2 ^ 7) (a / 2 ^ 15 % 2 ^ 5) 15 (by omega)]
  omega
theorem not_m7 {v : Int} (h0 : 0 ≤ v) (h1 : v < 4294967296) : bits .andNot .u32 v 4293947519 = v / 128 % 32 * 128 + v / 32768 % 32 * 32768 := by
  rw [andNot_and v (m' := 1019776) (by decide)]
  exact and_r7 h0 h1
theorem and_m5 {v : Int} (h0 : 0 ≤ v) (h1 : v < 4294967296) : bits .and .u32 v 4294967295 = v := by
  have := bits_mask .u32 32 (by decide) wraps_u32 32 (by decide) v h0 h1
  rw [show ((2 : Int) ^ 32 - 1) = 4294967295 from rfl, show ((2 : Int) ^ 32) = 4294967296 from rfl] at this
  omega
theorem not_m5 {v : Int} (h0 : 0 ≤ v) (h1 : v < 4294967296) : bits .andNot .u32 v 4294967295 = 0 := by
  rw [andNot_and v (m' := 0) (by decide)]
  refine and_of_nat h0 h1 0 (by decide) _ ?_
  simp
end Go.Proofs.YtdogjmimjjmmaaaDoor
