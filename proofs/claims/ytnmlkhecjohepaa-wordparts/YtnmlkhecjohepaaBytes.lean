/-
  Bytes of words: what Bytes writes is what Get reads, bit by bit. Plain mathematics.
-/
import Derived.Test.YtnmlkhecjohepaaHeld
namespace Go.Proofs.Ytnmlkhecjohepaa
open Go.RowKit
theorem str_fold (ns : List Int) : ∀ b : ByteArray, (ns.foldl (fun r n => r.push (UInt8.ofNat n.toNat)) b).data.toList = b.data.toList ++ ns.map (fun n => UInt8.ofNat n.toNat) := by
  induction ns with
  | nil => intro b; simp
  | cons n ns ih => intro b; rw [List.foldl_cons, ih]; simp
theorem str_list (ns : List Int) : (strOf ns).data.toList = ns.map (fun n => UInt8.ofNat n.toNat) := by
  unfold strOf; rw [str_fold]; rfl
def bvI (v : Int) (j : Nat) : Int := v / 2 ^ (8 * j) % 256
theorem byteRow_eq (v : Int) : byteRow v = (List.range 8).map (bvI v) := by
  simp [byteRow, bvI, List.range_succ]
theorem bv_bd (v : Int) (j : Nat) : 0 ≤ bvI v j ∧ bvI v j < 256 := by unfold bvI; omega
theorem byte_back (x : Int) (h : 0 ≤ x ∧ x < 256) : ((UInt8.ofNat x.toNat).toNat : Int) = x := by
  simp only [UInt8.toNat_ofNat']; omega
theorem byteAt_bytes (v n k : Int) : byteAt (bytesI v n).data.toList k = if 0 ≤ k ∧ k < clamp n 0 8 then bvI v k.toNat else 0 := by
  obtain ⟨hb1, hb2⟩ := clamp_bd n 0 8 (by omega)
  unfold bytesI byteAt
  rw [str_list, byteRow_eq]
  by_cases h0 : 0 ≤ k
  · rw [if_pos h0]
    by_cases h1 : k < clamp n 0 8
    · rw [if_pos ⟨h0, h1⟩, List.getD_eq_getElem?_getD, List.getElem?_eq_getElem (by simp; omega)]
      simp only [List.getElem_map, List.getElem_take, List.getElem_range, Option.getD_some]
      exact byte_back _ (bv_bd _ _)
    · rw [if_neg (by omega), List.getD_eq_getElem?_getD, List.getElem?_eq_none (by simp; omega)]; rfl
  · rw [if_neg h0, if_neg (by omega)]
theorem tb_byte (x : Int) (h : 0 ≤ x ∧ x < 256) (i : Nat) (hi : 8 ≤ i) : tb x i = false := by
  unfold tb
  exact Nat.testBit_lt_two_pow (Nat.lt_of_lt_of_le (show x.toNat < 2 ^ 8 by omega) (Nat.pow_le_pow_right (by decide) hi))
theorem tb_bvI {v : Int} (hv : U v) (j i : Nat) : tb (bvI v j) i = (tb v (i + 8 * j) && decide (i < 8)) := by
  obtain ⟨V, rfl, hV⟩ := hv.nat
  unfold bvI
  have e : ((V : Int) / 2 ^ (8 * j) % 256) = ((V / 2 ^ (8 * j) % 2 ^ 8 : Nat) : Int) := by simp
  rw [e]
  simp only [tb, Int.toNat_natCast]
  rw [Nat.testBit_mod_two_pow, Nat.testBit_div_two_pow, Bool.and_comm]
theorem tb_mul {c : Int} (h : 0 ≤ c ∧ c < 256) (s i : Nat) : tb (c * 2 ^ s) i = (decide (s ≤ i) && tb c (i - s)) := by
  obtain ⟨C, rfl⟩ := Int.eq_ofNat_of_zero_le h.1
  have e : (C : Int) * 2 ^ s = ((C * 2 ^ s : Nat) : Int) := by simp
  rw [e]
  simp only [tb, Int.toNat_natCast]
  rw [Nat.testBit_mul_two_pow]
theorem U_mul {c : Int} (h : 0 ≤ c ∧ c < 256) (s : Nat) (hs : s ≤ 56) : U (c * 2 ^ s) := by
  obtain ⟨C, rfl⟩ := Int.eq_ofNat_of_zero_le h.1
  have e : (C : Int) * 2 ^ s = ((C * 2 ^ s : Nat) : Int) := by simp
  have hp : 2 ^ s ≤ 2 ^ 56 := Nat.pow_le_pow_right (by decide) hs
  have hm : C * 2 ^ s ≤ 255 * 2 ^ 56 := Nat.mul_le_mul (by omega) hp
  rw [e]
  exact ⟨by omega, by omega⟩
theorem tb_num (g : Nat → Int) (hg : ∀ j, 0 ≤ g j ∧ g j < 256) (i : Nat) (hi : i < 64) :
    tb (numI (g 0) (g 1) (g 2) (g 3) (g 4) (g 5) (g 6) (g 7)) i = tb (g (i / 8)) (i % 8) := by
  have hU0 : U 0 := by unfold U; omega
  have hUg : U (g 0) := by have := hg 0; unfold U; omega
  have e1 := tb_mul (hg 1) 8 i; have u1 := U_mul (hg 1) 8 (by decide)
  have e2 := tb_mul (hg 2) 16 i; have u2 := U_mul (hg 2) 16 (by decide)
  have e3 := tb_mul (hg 3) 24 i; have u3 := U_mul (hg 3) 24 (by decide)
  have e4 := tb_mul (hg 4) 32 i; have u4 := U_mul (hg 4) 32 (by decide)
  have e5 := tb_mul (hg 5) 40 i; have u5 := U_mul (hg 5) 40 (by decide)
  have e6 := tb_mul (hg 6) 48 i; have u6 := U_mul (hg 6) 48 (by decide)
  have e7 := tb_mul (hg 7) 56 i; have u7 := U_mul (hg 7) 56 (by decide)
  unfold numI
  rw [show (256 : Int) = 2 ^ 8 from rfl, show (65536 : Int) = 2 ^ 16 from rfl, show (16777216 : Int) = 2 ^ 24 from rfl, show (4294967296 : Int) = 2 ^ 32 from rfl, show (1099511627776 : Int) = 2 ^ 40 from rfl, show (281474976710656 : Int) = 2 ^ 48 from rfl, show (72057594037927936 : Int) = 2 ^ 56 from rfl]
  rw [tb_or (U_or _ _) u7, tb_or (U_or _ _) u6, tb_or (U_or _ _) u5, tb_or (U_or _ _) u4, tb_or (U_or _ _) u3, tb_or (U_or _ _) u2, tb_or (U_or _ _) u1, tb_or hU0 hUg, e1, e2, e3, e4, e5, e6, e7]
  have z : tb 0 i = false := by simp [tb]
  have far : ∀ j, 8 * (j + 1) ≤ i → tb (g j) (i - 8 * j) = false := fun j hj => tb_byte _ (hg j) _ (by omega)
  have hj : i / 8 = 0 ∨ i / 8 = 1 ∨ i / 8 = 2 ∨ i / 8 = 3 ∨ i / 8 = 4 ∨ i / 8 = 5 ∨ i / 8 = 6 ∨ i / 8 = 7 := by omega
  rw [z]
  have f0 := far 0; have f1 := far 1; have f2 := far 2; have f3 := far 3; have f4 := far 4; have f5 := far 5; have f6 := far 6
  simp only [Nat.mul_zero, Nat.sub_zero, Nat.zero_add, Nat.mul_one, Nat.reduceAdd, Nat.reduceMul] at f0 f1 f2 f3 f4 f5 f6
  rcases hj with h | h | h | h | h | h | h | h
  · rw [h, show i % 8 = i by omega]
    simp [show ¬ 8 ≤ i by omega, show ¬ 16 ≤ i by omega, show ¬ 24 ≤ i by omega, show ¬ 32 ≤ i by omega, show ¬ 40 ≤ i by omega, show ¬ 48 ≤ i by omega, show ¬ 56 ≤ i by omega]
  · rw [h, f0 (by omega), show i % 8 = i - 8 by omega]
    simp [show 8 ≤ i by omega, show ¬ 16 ≤ i by omega, show ¬ 24 ≤ i by omega, show ¬ 32 ≤ i by omega, show ¬ 40 ≤ i by omega, show ¬ 48 ≤ i by omega, show ¬ 56 ≤ i by omega]
  · rw [h, f0 (by omega), f1 (by omega), show i % 8 = i - 16 by omega]
    simp [show 16 ≤ i by omega, show ¬ 24 ≤ i by omega, show ¬ 32 ≤ i by omega, show ¬ 40 ≤ i by omega, show ¬ 48 ≤ i by omega, show ¬ 56 ≤ i by omega]
  · rw [h, f0 (by omega), f1 (by omega), f2 (by omega), show i % 8 = i - 24 by omega]
    simp [show 24 ≤ i by omega, show ¬ 32 ≤ i by omega, show ¬ 40 ≤ i by omega, show ¬ 48 ≤ i by omega, show ¬ 56 ≤ i by omega]
  · rw [h, f0 (by omega), f1 (by omega), f2 (by omega), f3 (by omega), show i % 8 = i - 32 by omega]
    simp [show 32 ≤ i by omega, show ¬ 40 ≤ i by omega, show ¬ 48 ≤ i by omega, show ¬ 56 ≤ i by omega]
  · rw [h, f0 (by omega), f1 (by omega), f2 (by omega), f3 (by omega), f4 (by omega), show i % 8 = i - 40 by omega]
    simp [show 40 ≤ i by omega, show ¬ 48 ≤ i by omega, show ¬ 56 ≤ i by omega]
  · rw [h, f0 (by omega), f1 (by omega), f2 (by omega), f3 (by omega), f4 (by omega), f5 (by omega), show i % 8 = i - 48 by omega]
    simp [show 48 ≤ i by omega, show ¬ 56 ≤ i by omega]
  · rw [h, f0 (by omega), f1 (by omega), f2 (by omega), f3 (by omega), f4 (by omega), f5 (by omega), f6 (by omega), show i % 8 = i - 56 by omega]
    simp [show 56 ≤ i by omega]
theorem got_bd (l : List UInt8) (a n : Int) (j : Nat) : 0 ≤ gotAt l a n j ∧ gotAt l a n j < 256 := by
  unfold gotAt byteAt
  split
  · split
    · have := (l.getD (a + (j : Int)).toNat 0).toNat_lt; omega
    · omega
  · omega
theorem U_get (l : List UInt8) (a n : Int) : U (getI l a n) := U_or _ _
theorem tb_get (l : List UInt8) (a n : Int) (i : Nat) (hi : i < 64) : tb (getI l a n) i = tb (gotAt l a n (i / 8)) (i % 8) :=
  tb_num (gotAt l a n) (got_bd l a n) i hi
theorem tb_get_bytes {v : Int} (hv : U v) (n a k : Int) (i : Nat) (hi : i < 64) :
    tb (getI (bytesI v n).data.toList a k) i = (decide (((i / 8 : Nat) : Int) < clamp k 0 8 ∧ 0 ≤ a + ((i / 8 : Nat) : Int) ∧ a + ((i / 8 : Nat) : Int) < clamp n 0 8) && tb v (((i : Int) + 8 * a).toNat)) := by
  rw [tb_get _ _ _ _ hi]
  unfold gotAt
  rw [byteAt_bytes]
  have z : tb 0 (i % 8) = false := by simp [tb]
  by_cases h1 : ((i / 8 : Nat) : Int) < clamp k 0 8
  · rw [if_pos h1]
    by_cases h2 : 0 ≤ a + ((i / 8 : Nat) : Int) ∧ a + ((i / 8 : Nat) : Int) < clamp n 0 8
    · rw [if_pos h2, tb_bvI hv]
      have e : i % 8 + 8 * (a + ((i / 8 : Nat) : Int)).toNat = ((i : Int) + 8 * a).toNat := by omega
      rw [e]
      rw [decide_eq_true (show i % 8 < 8 by omega), decide_eq_true (And.intro h1 h2), Bool.and_true, Bool.true_and]
    · rw [if_neg h2, z]
      simp only [h2, and_false, decide_false, Bool.false_and]
  · rw [if_neg h1, z]
    simp only [h1, false_and, decide_false, Bool.false_and]
theorem get_bytes_whole {v : Int} (hv : U v) : getI (bytesI v 8).data.toList 0 8 = v := by
  refine (U_get _ _ _).ext hv fun i hi => ?_
  rw [tb_get_bytes hv _ _ _ _ hi, clamp_id 8 0 8 (by omega) (by omega), show ((i : Int) + 8 * 0).toNat = i by omega]
  rw [decide_eq_true (by omega), Bool.true_and]
theorem bits_whole {v : Int} (hv : U v) : bitsI v 0 64 = v := by
  refine (U_bits _ _ _).ext hv fun i hi => ?_
  have h0 : loI 0 = 0 := clamp_id _ _ _ (by omega) (by omega)
  have h1 : manyI 0 64 = 64 := by unfold manyI; rw [h0]; exact clamp_id _ _ _ (by omega) (by omega)
  rw [tb_bits hv, h0, h1, decide_eq_true (by omega), Bool.and_true]; rfl
theorem lo_id (l : Int) (h0 : 0 ≤ l) (h1 : l < 64) : loI l = l := clamp_id _ _ _ h0 (by omega)
theorem many_id (l k : Int) (h0 : 0 ≤ l) (h1 : l < 64) (h2 : 0 ≤ k) (h3 : k ≤ 64 - l) : manyI l k = k := by
  unfold manyI; rw [lo_id l h0 h1]; exact clamp_id _ _ _ h2 h3
theorem back1 {v x : Int} (hv : U v) (hx : U x) (l k : Int) (h0 : 0 ≤ l) (h1 : l < 64) (h2 : 0 ≤ k) (h3 : k ≤ 64 - l) :
    bitsI (setI v l k x) l k = bitsI x 0 k := by
  refine (U_bits _ _ _).ext (U_bits _ _ _) fun i hi => ?_
  rw [tb_bits (U_set _ _ _ _), tb_bits hx, lo_id l h0 h1, many_id l k h0 h1 h2 h3, lo_id 0 (by omega) (by omega), many_id 0 k (by omega) (by omega) h2 (by omega)]
  by_cases h : (i : Int) < k
  · rw [tb_set hv hx _ _ _ (by omega), lo_id l h0 h1, many_id l k h0 h1 h2 h3, if_pos (by omega), show i + l.toNat - l.toNat = i + Int.toNat 0 from by simp]
  · simp [h]
theorem back2 {v x : Int} (hv : U v) (hx : U x) (l k : Int) (h0 : 0 ≤ l) (h1 : l < 64) (h2 : 0 ≤ k) (h3 : k ≤ 64 - l) :
    setI (setI v l k x) l k (bitsI v l k) = v := by
  refine (U_set _ _ _ _).ext hv fun i hi => ?_
  rw [tb_set (U_set _ _ _ _) (U_bits _ _ _) _ _ _ hi, tb_set hv hx _ _ _ hi, tb_bits hv, lo_id l h0 h1, many_id l k h0 h1 h2 h3]
  by_cases h : l ≤ i ∧ (i : Int) < l + k
  · rw [if_pos h, show i - l.toNat + l.toNat = i by omega, decide_eq_true (by omega), Bool.and_true]
  · rw [if_neg h, if_neg h]
theorem get_byte {v : Int} (hv : U v) (j : Int) (h0 : 0 ≤ j) (h1 : j < 8) : getI (bytesI v 8).data.toList j 1 = bitsI v (j * 8) 8 := by
  refine (U_get _ _ _).ext (U_bits _ _ _) fun i hi => ?_
  rw [tb_get_bytes hv _ _ _ _ hi, tb_bits hv, lo_id (j * 8) (by omega) (by omega), many_id (j * 8) 8 (by omega) (by omega) (by omega) (by omega), clamp_id 8 0 8 (by omega) (by omega), clamp_id 1 0 8 (by omega) (by omega)]
  by_cases h : i < 8
  · rw [decide_eq_true (by omega), decide_eq_true (by omega), Bool.true_and, Bool.and_true, show ((i : Int) + 8 * j).toNat = i + (j * 8).toNat by omega]
  · rw [decide_eq_false (by omega), decide_eq_false (by omega), Bool.false_and, Bool.and_false]
end Go.Proofs.Ytnmlkhecjohepaa
