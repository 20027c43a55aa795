/-
  What the Lay of the document's memory does: walked whole, for every argument.
-/
import Derived.Test.YtpplclenokfpeaaDoorRefMem
namespace Go.Proofs.YtpplclenokfpeaaDoor
open Go.RowKit
theorem lay_zero (B : Nat → Int) (a : Nat) (s : List UInt8) (i : Nat) : layF B a (s.take 0) i = B i := by
  unfold layF; rw [if_neg (by simp)]
theorem lay_step (B : Nat → Int) (a k : Nat) (s : List UInt8) (hk : k < s.length) (i : Nat) : (if i = a + k then ((s[k]).toNat : Int) else layF B a (s.take k) i) = layF B a (s.take (k + 1)) i := by
  unfold layF
  have l1 : (s.take k).length = k := by simp; omega
  have l2 : (s.take (k + 1)).length = k + 1 := by simp; omega
  rw [l1, l2]
  by_cases h : i = a + k
  · rw [if_pos h, if_pos (by omega), h, Nat.add_sub_cancel_left]
    simp [List.getD, hk]
  · rw [if_neg h]
    by_cases h2 : a ≤ i ∧ i < a + k
    · rw [if_pos h2, if_pos (by omega)]
      simp [List.getD, show i - a < k by omega, show i - a < k + 1 by omega]
    · rw [if_neg h2, if_neg (by omega)]
/-- Whether a text fits from a place on. -/
def fitsB (a : Int) (n : Nat) : Bool := decide (a ≤ 32768 ∧ (n : Int) ≤ 32768 - a)
end Go.Proofs.YtpplclenokfpeaaDoor
