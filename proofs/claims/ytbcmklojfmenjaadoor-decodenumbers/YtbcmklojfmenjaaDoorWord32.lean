/-
  Words of 32 bits: their parts by division and remainder.
-/
import Derived.Test.YtbcmklojfmenjaaDoorRows
import Derived.WalkKit
import Derived.Laws.BitsLemmas
import Derived.Lib.EndianBits
import Derived.Laws.Bits64b
namespace Go.Proofs.YtbcmklojfmenjaaDoor
open Go.RowKit
theorem and1 {x : Int} (h0 : 0 ≤ x) (h1 : x < 4294967296) : bits .and .u32 x 1 = x % 2 := bits_mask .u32 32 (by decide) wraps_u32 1 (by decide) x h0 h1
theorem and3 {x : Int} (h0 : 0 ≤ x) (h1 : x < 4294967296) : bits .and .u32 x 3 = x % 4 := bits_mask .u32 32 (by decide) wraps_u32 2 (by decide) x h0 h1
theorem and7 {x : Int} (h0 : 0 ≤ x) (h1 : x < 4294967296) : bits .and .u32 x 7 = x % 8 := bits_mask .u32 32 (by decide) wraps_u32 3 (by decide) x h0 h1
theorem and15 {x : Int} (h0 : 0 ≤ x) (h1 : x < 4294967296) : bits .and .u32 x 15 = x % 16 := bits_mask .u32 32 (by decide) wraps_u32 4 (by decide) x h0 h1
theorem and31 {x : Int} (h0 : 0 ≤ x) (h1 : x < 4294967296) : bits .and .u32 x 31 = x % 32 := bits_mask .u32 32 (by decide) wraps_u32 5 (by decide) x h0 h1
theorem and63 {x : Int} (h0 : 0 ≤ x) (h1 : x < 4294967296) : bits .and .u32 x 63 = x % 64 := bits_mask .u32 32 (by decide) wraps_u32 6 (by decide) x h0 h1
theorem and127 {x : Int} (h0 : 0 ≤ x) (h1 : x < 4294967296) : bits .and .u32 x 127 = x % 128 := bits_mask .u32 32 (by decide) wraps_u32 7 (by decide) x h0 h1
theorem and255 {x : Int} (h0 : 0 ≤ x) (h1 : x < 4294967296) : bits .and .u32 x 255 = x % 256 := bits_mask .u32 32 (by decide) wraps_u32 8 (by decide) x h0 h1
theorem and1023 {x : Int} (h0 : 0 ≤ x) (h1 : x < 4294967296) : bits .and .u32 x 1023 = x % 1024 := bits_mask .u32 32 (by decide) wraps_u32 10 (by decide) x h0 h1
theorem and4095 {x : Int} (h0 : 0 ≤ x) (h1 : x < 4294967296) : bits .and .u32 x 4095 = x % 4096 := bits_mask .u32 32 (by decide) wraps_u32 12 (by decide) x h0 h1
theorem and_top {v : Int} (h0 : 0 ≤ v) (h1 : v < 4294967296) : bits .and .u32 v 4294963200 = v / 4096 * 4096 := by
  obtain ⟨a, rfl⟩ := Int.eq_ofNat_of_zero_le h0
  have ha : a < 2 ^ 32 := by omega
  have e := (bits_nat .u32 32 (by decide) wraps_u32 a 4294963200 ha (by decide)).1
  rw [show ((4294963200 : Nat) : Int) = 4294963200 from rfl] at e
  rw [e]
  have e2 : a &&& 4294963200 = a / 4096 * 4096 := by
    apply Nat.eq_of_testBit_eq
    intro i
    rw [Nat.testBit_and, show 4294963200 = (2 ^ 20 - 1) * 2 ^ 12 from rfl, Nat.testBit_mul_two_pow, show a / 4096 * 4096 = (a / 2 ^ 12) * 2 ^ 12 from rfl, Nat.testBit_mul_two_pow, Nat.testBit_two_pow_sub_one, Nat.testBit_div_two_pow]
    by_cases hi : 12 ≤ i
    · simp only [hi, decide_true, Bool.true_and]
      rw [show i - 12 + 12 = i by omega]
      by_cases hj : i - 12 < 20
      · simp [hj]
      · simp only [hj, decide_false, Bool.and_false]
        exact (Nat.testBit_lt_two_pow (Nat.lt_of_lt_of_le ha (Nat.pow_le_pow_right (by decide) (by omega)))).symm
    · simp [hi]
  rw [e2]
  omega
theorem or32 (i : Nat) {x y : Int} (hx0 : 0 ≤ x) (hx : x % 2 ^ i = 0) (hx1 : x < 4294967296) (hy0 : 0 ≤ y) (hy : y < 2 ^ i) (hy1 : y < 4294967296) : bits .or .u32 x y = x + y :=
  bits_join .u32 32 (by decide) wraps_u32 i x y hx0 hx hx1 hy0 hy hy1
theorem ro32 (i : Nat) {x y : Int} (hy0 : 0 ≤ y) (hy : y < 2 ^ i) (hy1 : y < 4294967296) (hx0 : 0 ≤ x) (hx : x % 2 ^ i = 0) (hx1 : x < 4294967296) : bits .or .u32 y x = y + x :=
  bits_join_low .u32 32 (by decide) wraps_u32 i y x hy0 hy hy1 hx0 hx hx1
/-- The number that the lowest n bits say, with its sign. -/
def sgn (x h : Int) : Int := if x < h then x else x - 2 * h
end Go.Proofs.YtbcmklojfmenjaaDoor
