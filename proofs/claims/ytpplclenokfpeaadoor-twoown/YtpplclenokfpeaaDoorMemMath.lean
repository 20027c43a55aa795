/-
  Bytes of memory as numbers and as texts. Plain mathematics: nothing of the program is walked here.
-/
import Derived.Test.YtpplclenokfpeaaDoorMemBase
import Derived.Test.YtpplclenokfpeaaDoorRefFrame
import Derived.Test.YtpplclenokfpeaaDoorGet
namespace Go.Proofs.YtpplclenokfpeaaDoor
open Go.RowKit
theorem str_fold (ns : List Int) : ∀ b : ByteArray, (ns.foldl (fun r n => r.push (UInt8.ofNat n.toNat)) b).data.toList = b.data.toList ++ ns.map (fun n => UInt8.ofNat n.toNat) := by
  induction ns with
  | nil => intro b; simp
  | cons n ns ih => intro b; rw [List.foldl_cons, ih]; simp
theorem str_list (ns : List Int) : (strOf ns).data.toList = ns.map (fun n => UInt8.ofNat n.toNat) := by
  unfold strOf; rw [str_fold]; rfl
def bvI (v : Int) (j : Nat) : Int := v / 2 ^ (8 * j) % 256
theorem byteRow_eq (v : Int) : byteRow v = (List.range 8).map (bvI v) := by
  simp [byteRow, bvI, List.range_succ]
theorem bv_bd (v : Int) (j : Nat) : 0 ≤ bvI v j ∧ bvI v j < 256 := by unfold bvI; omega
theorem byte_back (x : Int) (h : 0 ≤ x ∧ x < 256) : ((UInt8.ofNat x.toNat).toNat : Int) = x := by
  simp only [UInt8.toNat_ofNat']; omega
theorem byteAt_bytes (v n k : Int) : byteAt (bytesI v n).data.toList k = if 0 ≤ k ∧ k < clamp n 0 8 then bvI v k.toNat else 0 := by
  obtain ⟨hb1, hb2⟩ := clamp_bd n 0 8 (by omega)
  unfold bytesI byteAt
  rw [str_list, byteRow_eq]
  by_cases h0 : 0 ≤ k
  · rw [if_pos h0]
    by_cases h1 : k < clamp n 0 8
    · rw [if_pos ⟨h0, h1⟩, List.getD_eq_getElem?_getD, List.getElem?_eq_getElem (by simp; omega)]
      simp only [List.getElem_map, List.getElem_take, List.getElem_range, Option.getD_some]
      exact byte_back _ (bv_bd _ _)
    · rw [if_neg (by omega), List.getD_eq_getElem?_getD, List.getElem?_eq_none (by simp; omega)]; rfl
  · rw [if_neg h0, if_neg (by omega)]
theorem tb_byte (x : Int) (h : 0 ≤ x ∧ x < 256) (i : Nat) (hi : 8 ≤ i) : tb x i = false := by
  unfold tb
  exact Nat.testBit_lt_two_pow (Nat.lt_of_lt_of_le (show x.toNat < 2 ^ 8 by omega) (Nat.pow_le_pow_right (by decide) hi))
theorem tb_mul {c : Int} (h : 0 ≤ c ∧ c < 256) (s i : Nat) : tb (c * 2 ^ s) i = (decide (s ≤ i) && tb c (i - s)) := by
  obtain ⟨C, rfl⟩ := Int.eq_ofNat_of_zero_le h.1
  have e : (C : Int) * 2 ^ s = ((C * 2 ^ s : Nat) : Int) := by simp
  rw [e]
  simp only [tb, Int.toNat_natCast]
  rw [Nat.testBit_mul_two_pow]
theorem U_mul {c : Int} (h : 0 ≤ c ∧ c < 256) (s : Nat) (hs : s ≤ 56) : U (c * 2 ^ s) := by
  obtain ⟨C, rfl⟩ := Int.eq_ofNat_of_zero_le h.1
  have e : (C : Int) * 2 ^ s = ((C * 2 ^ s : Nat) : Int) := by simp
  have hp : 2 ^ s ≤ 2 ^ 56 := Nat.pow_le_pow_right (by decide) hs
  have hm : C * 2 ^ s ≤ 255 * 2 ^ 56 := Nat.mul_le_mul (by omega) hp
  rw [e]
  exact ⟨by omega, by omega⟩
theorem or_at_top {x c : Int} (k : Nat) (hk : k ≤ 56) (h0 : 0 ≤ x) (h1 : x < 2 ^ k) (hc : 0 ≤ c ∧ c < 256) : bits .or .u64 x (c * 2 ^ k) = x + c * 2 ^ k := by
  have hp : (2 : Int) ^ k ≤ 2 ^ 56 := by
    have : (2 : Nat) ^ k ≤ 2 ^ 56 := Nat.pow_le_pow_right (by decide) hk
    exact_mod_cast this
  have hU : U x := by unfold U; omega
  refine sum_or hU (U_mul hc k hk) ?_
  refine (U_and _ _).ext ⟨by omega, by omega⟩ fun i hi => ?_
  rw [tb_and hU (U_mul hc k hk), tb_mul hc, show tb 0 i = false by simp [tb]]
  by_cases h : k ≤ i
  · obtain ⟨X, rfl, _⟩ := hU.nat
    have hX : X < 2 ^ k := by exact_mod_cast h1
    rw [show tb (X : Int) i = false from Nat.testBit_lt_two_pow (Nat.lt_of_lt_of_le hX (Nat.pow_le_pow_right (by decide) h))]
    rfl
  · rw [decide_eq_false h]; simp
theorem num_sum {c0 c1 c2 c3 c4 c5 c6 c7 : Int} (b0 : 0 ≤ c0 ∧ c0 < 256) (b1 : 0 ≤ c1 ∧ c1 < 256) (b2 : 0 ≤ c2 ∧ c2 < 256) (b3 : 0 ≤ c3 ∧ c3 < 256) (b4 : 0 ≤ c4 ∧ c4 < 256) (b5 : 0 ≤ c5 ∧ c5 < 256) (b6 : 0 ≤ c6 ∧ c6 < 256) (b7 : 0 ≤ c7 ∧ c7 < 256) :
    numW c0 c1 c2 c3 c4 c5 c6 c7 = c0 + 256 * (c1 + 256 * (c2 + 256 * (c3 + 256 * (c4 + 256 * (c5 + 256 * (c6 + 256 * c7)))))) := by
  have e0 : bits .or .u64 0 c0 = c0 := by have := or_at_top (x := 0) 0 (by decide) (by omega) (by decide) b0; simpa using this
  have e1 := or_at_top (x := c0) 8 (by decide) (by omega) (by omega) b1
  have e2 := or_at_top (x := c0 + c1 * 2 ^ 8) 16 (by decide) (by omega) (by omega) b2
  have e3 := or_at_top (x := c0 + c1 * 2 ^ 8 + c2 * 2 ^ 16) 24 (by decide) (by omega) (by omega) b3
  have e4 := or_at_top (x := c0 + c1 * 2 ^ 8 + c2 * 2 ^ 16 + c3 * 2 ^ 24) 32 (by decide) (by omega) (by omega) b4
  have e5 := or_at_top (x := c0 + c1 * 2 ^ 8 + c2 * 2 ^ 16 + c3 * 2 ^ 24 + c4 * 2 ^ 32) 40 (by decide) (by omega) (by omega) b5
  have e6 := or_at_top (x := c0 + c1 * 2 ^ 8 + c2 * 2 ^ 16 + c3 * 2 ^ 24 + c4 * 2 ^ 32 + c5 * 2 ^ 40) 48 (by decide) (by omega) (by omega) b6
  have e7 := or_at_top (x := c0 + c1 * 2 ^ 8 + c2 * 2 ^ 16 + c3 * 2 ^ 24 + c4 * 2 ^ 32 + c5 * 2 ^ 40 + c6 * 2 ^ 48) 56 (by decide) (by omega) (by omega) b7
  unfold numW
  rw [show (256 : Int) = 2 ^ 8 from rfl, show (65536 : Int) = 2 ^ 16 from rfl, show (16777216 : Int) = 2 ^ 24 from rfl, show (4294967296 : Int) = 2 ^ 32 from rfl, show (1099511627776 : Int) = 2 ^ 40 from rfl, show (281474976710656 : Int) = 2 ^ 48 from rfl, show (72057594037927936 : Int) = 2 ^ 56 from rfl]
  rw [e0, e1, e2, e3, e4, e5, e6, e7]
  omega
theorem text_list (B : Nat → Int) (a n : Nat) : (textF B a n).data.toList = (List.range n).map fun j => UInt8.ofNat (B (a + j)).toNat := by
  unfold textF
  rw [str_fold]
  simp
theorem got_text {B : Nat → Int} {a n : Nat} (hn : n ≤ 8) (h : a + n ≤ 32768) (hb : ∀ i, i < 32768 → 0 ≤ B i ∧ B i < 256) (j : Nat) : gotAt (textF B a n).data.toList 0 (n : Int) j = if j < n then B (a + j) else 0 := by
  unfold gotAt byteAt
  rw [text_list, show clamp (n : Int) 0 8 = n by unfold clamp; split <;> split <;> omega]
  by_cases hj : j < n
  · rw [if_pos (by omega), if_pos (by omega), if_pos hj, show ((0 : Int) + (j : Int)).toNat = j by omega]
    rw [List.getD_eq_getElem?_getD, List.getElem?_eq_getElem (by simpa using hj)]
    simp only [List.getElem_map, List.getElem_range, Option.getD_some]
    exact byte_back _ (hb _ (by omega))
  · rw [if_neg (by omega), if_neg hj]
theorem get_text {B : Nat → Int} {a n : Nat} (hn : n = 1 ∨ n = 2 ∨ n = 4 ∨ n = 8) (h : a + n ≤ 32768) (hb : ∀ i, i < 32768 → 0 ≤ B i ∧ B i < 256) : getI (textF B a n).data.toList 0 (n : Int) = rdF B a n := by
  have g := got_text (B := B) (a := a) (n := n) (by omega) h hb
  have bd : ∀ j, 0 ≤ (if j < n then B (a + j) else 0) ∧ (if j < n then B (a + j) else 0) < 256 := fun j => by
    split
    · exact hb _ (by omega)
    · omega
  unfold getI
  rw [g 0, g 1, g 2, g 3, g 4, g 5, g 6, g 7, num_sum (bd 0) (bd 1) (bd 2) (bd 3) (bd 4) (bd 5) (bd 6) (bd 7)]
  rcases hn with rfl | rfl | rfl | rfl <;> simp [rdF, Nat.add_assoc]
end Go.Proofs.YtpplclenokfpeaaDoor
