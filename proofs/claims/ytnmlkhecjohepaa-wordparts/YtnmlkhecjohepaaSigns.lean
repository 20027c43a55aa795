/-
  With its sign or without: what statement WordSigns asks, walked for every argument.
-/
import Derived.Test.YtnmlkhecjohepaaBack
namespace Go.Proofs.Ytnmlkhecjohepaa
open Go.RowKit
theorem and_one {x : Int} (hx : U x) : (bits .and .u64 x 1 == 0) = !tb x 0 := by
  have h1 : U 1 := by unfold U; omega
  have hU0 : U 0 := by unfold U; omega
  cases hb : tb x 0
  · have e : bits .and .u64 x 1 = 0 := by
      refine (U_and _ _).ext hU0 fun i hi => ?_
      rw [tb_and hx h1]
      by_cases h : i = 0
      · subst h; rw [hb]; rfl
      · have : tb 1 i = false := by
          unfold tb; exact Nat.testBit_lt_two_pow (Nat.lt_of_lt_of_le (show (1 : Int).toNat < 2 ^ 1 by decide) (Nat.pow_le_pow_right (by decide) (by omega)))
        rw [this, Bool.and_false]; simp [tb]
    rw [e]; rfl
  · have h := tb_and hx h1 0
    rw [hb] at h
    cases he : (bits .and .u64 x 1 == 0)
    · rfl
    · rw [eq_of_beq he] at h; revert h; decide
theorem sext_zext {v : Int} (hv : U v) (K : Int) (h0 : 1 ≤ K) (h1 : K ≤ 64) : (sextI v K == zextI v K) = (!tb v (K - 1).toNat || (K == 64)) := by
  have hk : clamp K 1 64 = K := clamp_id _ _ _ h0 h1
  cases hb : tb v (K - 1).toNat
  · have e : sextI v K = zextI v K := by
      refine (U_sext _ _).ext (U_zext _) fun i hi => ?_
      rw [tb_sext hv _ _ hi, tb_zext hv, hk]
      by_cases h : (i : Int) < K
      · rw [if_pos h, decide_eq_true h, Bool.and_true]
      · rw [if_neg h, hb, decide_eq_false h, Bool.and_false]
    rw [e]; simp
  · by_cases h64 : K = 64
    · subst h64
      have e : sextI v 64 = zextI v 64 := by
        refine (U_sext _ _).ext (U_zext _) fun i hi => ?_
        rw [tb_sext hv _ _ hi, tb_zext hv, hk, if_pos (by omega), decide_eq_true (by omega), Bool.and_true]
      rw [e]; simp
    · have h63 := tb_sext hv K 63 (by omega)
      have z63 := tb_zext hv K 63
      rw [hk, if_neg (by omega), hb] at h63
      rw [hk, decide_eq_false (by omega), Bool.and_false] at z63
      have hne : ¬ sextI v K = zextI v K := fun e => by rw [e, z63] at h63; exact Bool.noConfusion h63
      rw [beq_eq_false_iff_ne.2 hne, beq_eq_false_iff_ne.2 h64]; rfl
theorem zs {v : Int} (hv : U v) (K : Int) (h0 : 1 ≤ K) (h1 : K ≤ 64) : zextI (sextI v K) K = zextI v K := by
  refine (U_zext _).ext (U_zext _) fun i hi => ?_
  rw [tb_zext (U_sext _ _), tb_zext hv, tb_sext hv _ _ hi, clamp_id _ _ _ h0 h1]
  by_cases h : (i : Int) < K
  · rw [if_pos h]
  · simp [h]
theorem sz {v : Int} (hv : U v) (K : Int) (h0 : 1 ≤ K) (h1 : K ≤ 64) : sextI (zextI v K) K = sextI v K := by
  refine (U_sext _ _).ext (U_sext _ _) fun i hi => ?_
  rw [tb_sext (U_zext _) _ _ hi, tb_sext hv _ _ hi, tb_zext hv, tb_zext hv, clamp_id _ _ _ h0 h1]
  by_cases h : (i : Int) < K
  · rw [if_pos h, if_pos h, decide_eq_true h, Bool.and_true]
  · rw [if_neg h, if_neg h, decide_eq_true (by omega), Bool.and_true]
theorem ss {v : Int} (hv : U v) (K : Int) (h0 : 1 ≤ K) (h1 : K ≤ 64) : sextI (sextI v K) K = sextI v K := by
  refine (U_sext _ _).ext (U_sext _ _) fun i hi => ?_
  have hk : clamp K 1 64 = K := clamp_id _ _ _ h0 h1
  rw [tb_sext (U_sext _ _) _ _ hi, tb_sext hv _ _ hi, tb_sext hv _ _ (by omega), hk]
  by_cases h : (i : Int) < K
  · rw [if_pos h, if_pos h]
  · rw [if_neg h, if_neg h, if_pos (by omega)]
theorem wrap_back (a : Int) (h0 : -2147483648 ≤ a) (h1 : a ≤ 2147483647) : wrap64 (IntKind.u64.wrap a) = a := by
  rw [IntKind.wrap_u64]; unfold wrap64; omega
theorem sext32 (a : Int) (h0 : -2147483648 ≤ a) (h1 : a ≤ 2147483647) : sextI (a % 4294967296) 32 = IntKind.u64.wrap a := by
  unfold sextI
  rw [clamp_id 32 1 64 (by omega) (by omega), show ((64 : Int) - 32).toNat = 32 from rfl, show (2 : Int) ^ 32 = 4294967296 from rfl]
  rw [IntKind.wrap_u64, IntKind.wrap_u64, IntKind.wrap_u64]
  unfold wrap64
  omega
set_option linter.unusedVariables false in
set_option maxHeartbeats 1000000 in
theorem signs_walk (v n a b : Int) (p q r t : Bool) (h0 : 0 ≤ n) (h1 : n < 256) (ha0 : -2147483648 ≤ a) (ha1 : a ≤ 2147483647) (hb0 : -2147483648 ≤ b) (hb1 : b ≤ 2147483647) (w : World)
   (f1 : (zextI (sextI v (n % 64 + 1)) (n % 64 + 1) == zextI v (n % 64 + 1)) = true)
   (f2 : (sextI (zextI v (n % 64 + 1)) (n % 64 + 1) == sextI v (n % 64 + 1)) = true)
   (f3 : (sextI (sextI v (n % 64 + 1)) (n % 64 + 1) == sextI v (n % 64 + 1)) = true)
   (hp : (sextI v (n % 64 + 1) == zextI v (n % 64 + 1)) = p) (hq : (bits .and .u64 (v / 2 ^ (n % 64).toNat) 1 == 0) = q) (hr : (n % 64 + 1 == 64) = r) (hpq : p = (q || r))
   (ht1 : decide (wrap64 (IntKind.u64.wrap a) < wrap64 (IntKind.u64.wrap b)) = t) (ht2 : decide (a < b) = t)
   (f6 : (sextI (a % 4294967296) 32 == IntKind.u64.wrap a) = true) :
    Calls Try.prog 5 #[.int .u64 v, .int .u8 n, .int .i32 a, .int .i32 b] w fun e w' => e = .returned (.bool true) ∧ Grown w w' := by
  cases p <;> cases q <;> cases r <;> cases t <;> first | (exfalso; revert hpq; decide) | skip
  all_goals
    clear hpq
    go_enter Try.func5, Try.ntmps5
    go_wp2_with (first | (go_at_call 9; refine (known_any _).mono ?_; rintro e w1 ⟨rfl, hg1⟩) | (go_at_call 10; refine (sext_any _ _ _).mono ?_; rintro e w' ⟨rfl, rfl⟩) | (go_at_call 12; refine (zext_any _ _ _).mono ?_; rintro e w' ⟨rfl, rfl⟩) | (go_at_call 22; refine (high_any _ _ _).mono ?_; rintro e w' ⟨rfl, rfl⟩)  )
    go_ret
    exact ⟨rfl, hg1⟩
theorem signs_any (v n a b : Int) (hv : U v) (h0 : 0 ≤ n) (h1 : n < 256) (ha0 : -2147483648 ≤ a) (ha1 : a ≤ 2147483647) (hb0 : -2147483648 ≤ b) (hb1 : b ≤ 2147483647) (w : World) :
    Calls Try.prog 5 #[.int .u64 v, .int .u8 n, .int .i32 a, .int .i32 b] w fun e w' => e = .returned (.bool true) ∧ Grown w w' := by
  refine signs_walk v n a b _ _ _ _ h0 h1 ha0 ha1 hb0 hb1 w ?_ ?_ ?_ rfl rfl rfl ?_ rfl ?_ ?_
  · rw [zs hv _ (by omega) (by omega)]; simp
  · rw [sz hv _ (by omega) (by omega)]; simp
  · rw [ss hv _ (by omega) (by omega)]; simp
  · rw [sext_zext hv _ (by omega) (by omega), and_one (U_shr hv _), tb_shr hv, show 0 + (n % 64).toNat = (n % 64 + 1 - 1).toNat by omega]
  · rw [wrap_back a ha0 ha1, wrap_back b hb0 hb1]
  · rw [sext32 a ha0 ha1]; simp
end Go.Proofs.Ytnmlkhecjohepaa
