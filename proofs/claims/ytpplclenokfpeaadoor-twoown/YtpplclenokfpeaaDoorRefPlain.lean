/-
  What the document answers of words (Sext, Zext, Bits, Set, Less of the reference of layer 1): the same as package word, for every argument.
-/
import Derived.Test.YtpplclenokfpeaaDoorBits
namespace Go.Proofs.YtpplclenokfpeaaDoor
open Go.RowKit
def mn (x y : Int) : Int := if y < x then y else x
def mx (x y : Int) : Int := if x < y then y else x
theorem run_mn {P : Program} {w : World} (ts : Array TypeId) (t : TypeId) (k k' : IntKind) (x y : Int) : (Builtin.min_ ts t #[.int k x, .int k' y]).run P w = .ok (.int k (mn x y)) w := by
  unfold mn; simp only [run_min_int2]
theorem run_mx {P : Program} {w : World} (ts : Array TypeId) (t : TypeId) (k k' : IntKind) (x y : Int) : (Builtin.max_ ts t #[.int k x, .int k' y]).run P w = .ok (.int k (mx x y)) w := by
  unfold mx; simp only [run_max_int2, gt_iff_lt]
theorem clamp_mx (n b c : Int) (h : b ≤ c) : clamp n b c = mx b (mn n c) := by
  unfold clamp mx mn; split <;> split <;> (try split) <;> omega
theorem clamp_id (n b c : Int) (h1 : b ≤ n) (h2 : n ≤ c) : clamp n b c = n := by
  unfold clamp; split <;> split <;> omega
def rsetI (v lo n x : Int) : Int := bits .or .u64 (bits .andNot .u64 v (placeI lo n)) (IntKind.u64.wrap (bits .and .u64 x (onesI (manyI lo n)) * 2 ^ (loI lo).toNat))
theorem rset_eq {v x : Int} (hv : U v) (hx : U x) (lo n : Int) : rsetI v lo n x = setI v lo n x := by
  obtain ⟨hb1, hb2⟩ := lo_bd lo
  obtain ⟨hb3, hb4⟩ := many_bd lo n
  unfold rsetI
  refine (U_or _ _).ext (U_set _ _ _ _) fun i hi => ?_
  rw [tb_or (U_andNot _ _) (U_wrap _), tb_andNot hv (U_place _ _) i hi, tb_place lo n i hi, tb_shl (U_and _ _), tb_and hx (U_ones _), tb_ones _ hb3 (by omega), tb_set hv hx _ _ _ hi]
  by_cases h : loI lo ≤ i ∧ (i : Int) < loI lo + manyI lo n
  · rw [if_pos h, decide_eq_true h, decide_eq_true hi, decide_eq_true (show (loI lo).toNat ≤ i by omega), decide_eq_true (show ((i - (loI lo).toNat : Nat) : Int) < manyI lo n by omega)]
    simp
  · rw [if_neg h, decide_eq_false h, decide_eq_true hi]
    by_cases h2 : (loI lo).toNat ≤ i
    · rw [decide_eq_false (show ¬ ((i - (loI lo).toNat : Nat) : Int) < manyI lo n by omega)]; simp
    · rw [decide_eq_false h2]; simp
theorem whole64 {v : Int} (hv : U v) (n : Int) (hk : clamp n 1 64 = 64) : sextI v n = v ∧ zextI v n = v := by
  constructor
  · refine (U_sext _ _).ext hv fun i hi => ?_
    rw [tb_sext hv _ _ hi, hk, if_pos (by omega)]
  · refine (U_zext _).ext hv fun i hi => ?_
    rw [tb_zext hv, hk, decide_eq_true (by omega), Bool.and_true]
theorem and_ones {v : Int} (hv : U v) (n K : Int) (hk : clamp n 1 64 = K) : bits .and .u64 v (onesI K) = zextI v n := by
  obtain ⟨hb1, hb2⟩ := clamp_bd n 1 64 (by omega)
  refine (U_and _ _).ext (U_zext _) fun i hi => ?_
  rw [tb_and hv (U_ones _), tb_ones _ (by omega) (by omega), tb_zext hv, hk]
theorem top_bit {v : Int} (hv : U v) (K : Int) (h0 : 1 ≤ K) (h1 : K < 64) : (bits .and .u64 v (onesI K) / 2 ^ (K.toNat - 1) == 1) = tb v (K - 1).toNat := by
  have hU0 : U 0 := by unfold U; omega
  have hU1 : U 1 := by unfold U; omega
  have hx := U_shr (U_and v (onesI K)) (K.toNat - 1)
  have ht : ∀ i, tb (bits .and .u64 v (onesI K) / 2 ^ (K.toNat - 1)) i = (decide (i = 0) && tb v (K - 1).toNat) := by
    intro i
    rw [tb_shr (U_and _ _), tb_and hv (U_ones _), tb_ones _ (by omega) (by omega)]
    by_cases h : i = 0
    · subst h; rw [decide_eq_true (by omega), show 0 + (K.toNat - 1) = (K - 1).toNat by omega]; simp
    · rw [decide_eq_false (by omega), decide_eq_false h]; simp
  have t1 : ∀ i, tb 1 i = decide (i = 0) := by
    intro i
    by_cases h : i = 0
    · subst h; rfl
    · rw [decide_eq_false h]
      unfold tb; exact Nat.testBit_lt_two_pow (Nat.lt_of_lt_of_le (show (1 : Int).toNat < 2 ^ 1 by decide) (Nat.pow_le_pow_right (by decide) (by omega)))
  cases hb : tb v (K - 1).toNat
  · have e : bits .and .u64 v (onesI K) / 2 ^ (K.toNat - 1) = 0 := hx.ext hU0 fun i _ => by rw [ht, hb, Bool.and_false]; simp [tb]
    rw [e]; rfl
  · have e : bits .and .u64 v (onesI K) / 2 ^ (K.toNat - 1) = 1 := hx.ext hU1 fun i _ => by rw [ht, hb, Bool.and_true, t1]
    rw [e]; rfl
end Go.Proofs.YtpplclenokfpeaaDoor
