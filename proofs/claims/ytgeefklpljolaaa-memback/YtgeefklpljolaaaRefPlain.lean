/-
  What the document answers of words (Sext, Zext, Bits, Set, Less of the reference of layer 1): the same as package word, for every argument.
-/
import Derived.Test.YtgeefklpljolaaaBits
namespace Go.Proofs.Ytgeefklpljolaaa
open Go.RowKit
def mn (x y : Int) : Int := if y < x then y else x
def mx (x y : Int) : Int := if x < y then y else x
theorem run_mn {P : Program} {w : World} (ts : Array TypeId) (t : TypeId) (k k' : IntKind) (x y : Int) : (Builtin.min_ ts t #[.int k x, .int k' y]).run P w = .ok (.int k (mn x y)) w := by
  unfold mn; simp only [run_min_int2]
theorem run_mx {P : Program} {w : World} (ts : Array TypeId) (t : TypeId) (k k' : IntKind) (x y : Int) : (Builtin.max_ ts t #[.int k x, .int k' y]).run P w = .ok (.int k (mx x y)) w := by
  unfold mx; simp only [run_max_int2, gt_iff_lt]
theorem clamp_mx (n b c : Int) (h : b ≤ c) : clamp n b c = mx b (mn n c) := by
  unfold clamp mx mn; split <;> split <;> (try split) <;> omega
theorem clamp_id (n b c : Int) (h1 : b ≤ n) (h2 : n ≤ c) : clamp n b c = n := by
  unfold clamp; split <;> split <;> omega
set_option maxHeartbeats 1000000 in
theorem rmask_any (n : Int) (h0 : 0 ≤ n) (h1 : n ≤ 64) (w : World) :
    Calls Try.prog 29 #[.int .i64 n] w fun e w' => e = .returned (.int .u64 (onesI n)) ∧ w' = w := by
  by_cases h : n = 64
  · subst h
    have e : Hid ((18446744073709551615 : Int) = onesI 64) := by show _ = _; decide +kernel
    go_enter Try.func29, Try.ntmps29
    go_wp2
    go_ret
    exact ⟨ret_int (show _ = _ from e), rfl⟩
  · have h' : n < 64 := by omega
    clear h
    go_enter Try.func29, Try.ntmps29
    go_wp2
    go_ret
    exact ⟨rfl, rfl⟩
set_option maxHeartbeats 1000000 in
theorem rheld_any (lo n : Int) (w : World) :
    Calls Try.prog 28 #[.int .i64 lo, .int .i64 n] w fun e w' => e = .returned (.tuple #[.int .i64 (loI lo), .int .i64 (manyI lo n)]) ∧ w' = w := by
  have hl := lo_bd lo
  have e1 : loI lo = mx 0 (mn lo 63) := clamp_mx _ _ _ (by omega)
  have e2 : manyI lo n = mx 0 (mn n (64 - loI lo)) := clamp_mx _ _ _ (by omega)
  rw [e2, e1]
  rw [e1] at hl
  obtain ⟨hl0, hl1⟩ := hl
  clear e1 e2
  have hmn := fun ts t k k' x y w => run_mn (P := Try.prog) (w := w) ts t k k' x y
  have hmx := fun ts t k k' x y w => run_mx (P := Try.prog) (w := w) ts t k k' x y
  go_enter Try.func28, Try.ntmps28
  go_wp2
  go_ret2
  exact ⟨rfl, rfl⟩
set_option maxHeartbeats 1000000 in
theorem rbits_any (v lo n : Int) (w : World) :
    Calls Try.prog 21 #[.int .u64 v, .int .i64 lo, .int .i64 n] w fun e w' => e = .returned (.int .u64 (bitsI v lo n)) ∧ w' = w := by
  obtain ⟨hb1, hb2⟩ := lo_bd lo
  obtain ⟨hb3, hb4⟩ := many_bd lo n
  go_enter Try.func21, Try.ntmps21
  go_wp2_with (first | (go_at_call 28; refine (rheld_any _ _ _).mono ?_; rintro e w' ⟨rfl, rfl⟩) | (go_at_call 29; refine (rmask_any _ (by omega) (by omega) _).mono ?_; rintro e w' ⟨rfl, rfl⟩))
  go_ret
  exact ⟨rfl, rfl⟩
def rsetI (v lo n x : Int) : Int := bits .or .u64 (bits .andNot .u64 v (placeI lo n)) (IntKind.u64.wrap (bits .and .u64 x (onesI (manyI lo n)) * 2 ^ (loI lo).toNat))
theorem rset_eq {v x : Int} (hv : U v) (hx : U x) (lo n : Int) : rsetI v lo n x = setI v lo n x := by
  obtain ⟨hb1, hb2⟩ := lo_bd lo
  obtain ⟨hb3, hb4⟩ := many_bd lo n
  unfold rsetI
  refine (U_or _ _).ext (U_set _ _ _ _) fun i hi => ?_
  rw [tb_or (U_andNot _ _) (U_wrap _), tb_andNot hv (U_place _ _) i hi, tb_place lo n i hi, tb_shl (U_and _ _), tb_and hx (U_ones _), tb_ones _ hb3 (by omega), tb_set hv hx _ _ _ hi]
  by_cases h : loI lo ≤ i ∧ (i : Int) < loI lo + manyI lo n
  · rw [if_pos h, decide_eq_true h, decide_eq_true hi, decide_eq_true (show (loI lo).toNat ≤ i by omega), decide_eq_true (show ((i - (loI lo).toNat : Nat) : Int) < manyI lo n by omega)]
    simp
  · rw [if_neg h, decide_eq_false h, decide_eq_true hi]
    by_cases h2 : (loI lo).toNat ≤ i
    · rw [decide_eq_false (show ¬ ((i - (loI lo).toNat : Nat) : Int) < manyI lo n by omega)]; simp
    · rw [decide_eq_false h2]; simp
set_option maxHeartbeats 1000000 in
theorem rzext_small (v n : Int) (K : Int) (hK0 : 1 ≤ K) (hK1 : K < 64) (hk : mx 1 (mn n 64) = K) (w : World) :
    Calls Try.prog 22 #[.int .u64 v, .int .i64 n] w fun e w' => e = .returned (.int .u64 (bits .and .u64 v (onesI K))) ∧ w' = w := by
  have hmn := fun ts t k k' x y w => run_mn (P := Try.prog) (w := w) ts t k k' x y
  have hmx := fun ts t k k' x y w => run_mx (P := Try.prog) (w := w) ts t k k' x y
  have hne : (K == 64) = false := beq_eq_false_iff_ne.2 (by omega)
  go_enter Try.func22, Try.ntmps22
  go_wp2
  go_ret
  exact ⟨rfl, rfl⟩
set_option maxHeartbeats 1000000 in
theorem rzext_all (v n : Int) (hk : mx 1 (mn n 64) = 64) (w : World) :
    Calls Try.prog 22 #[.int .u64 v, .int .i64 n] w fun e w' => e = .returned (.int .u64 v) ∧ w' = w := by
  have hmn := fun ts t k k' x y w => run_mn (P := Try.prog) (w := w) ts t k k' x y
  have hmx := fun ts t k k' x y w => run_mx (P := Try.prog) (w := w) ts t k k' x y
  go_enter Try.func22, Try.ntmps22
  go_wp2
  go_ret
  exact ⟨rfl, rfl⟩
theorem whole64 {v : Int} (hv : U v) (n : Int) (hk : clamp n 1 64 = 64) : sextI v n = v ∧ zextI v n = v := by
  constructor
  · refine (U_sext _ _).ext hv fun i hi => ?_
    rw [tb_sext hv _ _ hi, hk, if_pos (by omega)]
  · refine (U_zext _).ext hv fun i hi => ?_
    rw [tb_zext hv, hk, decide_eq_true (by omega), Bool.and_true]
theorem and_ones {v : Int} (hv : U v) (n K : Int) (hk : clamp n 1 64 = K) : bits .and .u64 v (onesI K) = zextI v n := by
  obtain ⟨hb1, hb2⟩ := clamp_bd n 1 64 (by omega)
  refine (U_and _ _).ext (U_zext _) fun i hi => ?_
  rw [tb_and hv (U_ones _), tb_ones _ (by omega) (by omega), tb_zext hv, hk]
theorem top_bit {v : Int} (hv : U v) (K : Int) (h0 : 1 ≤ K) (h1 : K < 64) : (bits .and .u64 v (onesI K) / 2 ^ (K.toNat - 1) == 1) = tb v (K - 1).toNat := by
  have hU0 : U 0 := by unfold U; omega
  have hU1 : U 1 := by unfold U; omega
  have hx := U_shr (U_and v (onesI K)) (K.toNat - 1)
  have ht : ∀ i, tb (bits .and .u64 v (onesI K) / 2 ^ (K.toNat - 1)) i = (decide (i = 0) && tb v (K - 1).toNat) := by
    intro i
    rw [tb_shr (U_and _ _), tb_and hv (U_ones _), tb_ones _ (by omega) (by omega)]
    by_cases h : i = 0
    · subst h; rw [decide_eq_true (by omega), show 0 + (K.toNat - 1) = (K - 1).toNat by omega]; simp
    · rw [decide_eq_false (by omega), decide_eq_false h]; simp
  have t1 : ∀ i, tb 1 i = decide (i = 0) := by
    intro i
    by_cases h : i = 0
    · subst h; rfl
    · rw [decide_eq_false h]
      unfold tb; exact Nat.testBit_lt_two_pow (Nat.lt_of_lt_of_le (show (1 : Int).toNat < 2 ^ 1 by decide) (Nat.pow_le_pow_right (by decide) (by omega)))
  cases hb : tb v (K - 1).toNat
  · have e : bits .and .u64 v (onesI K) / 2 ^ (K.toNat - 1) = 0 := hx.ext hU0 fun i _ => by rw [ht, hb, Bool.and_false]; simp [tb]
    rw [e]; rfl
  · have e : bits .and .u64 v (onesI K) / 2 ^ (K.toNat - 1) = 1 := hx.ext hU1 fun i _ => by rw [ht, hb, Bool.and_true, t1]
    rw [e]; rfl
theorem rzext_any {v : Int} (hv : U v) (n : Int) (w : World) :
    Calls Try.prog 22 #[.int .u64 v, .int .i64 n] w fun e w' => e = .returned (.int .u64 (zextI v n)) ∧ w' = w := by
  obtain ⟨hb1, hb2⟩ := clamp_bd n 1 64 (by omega)
  have e3 : clamp n 1 64 = mx 1 (mn n 64) := clamp_mx _ _ _ (by omega)
  by_cases h : clamp n 1 64 = 64
  · rw [(whole64 hv n h).2]; exact rzext_all v n (by omega) w
  · rw [← and_ones hv n _ rfl]; exact rzext_small v n _ hb1 (by omega) e3.symm w
end Go.Proofs.Ytgeefklpljolaaa
