/-
  What statements BusTimes, BusWhere and BusMemory ask: walked for every argument.
-/
import Derived.Test.YtpnlicklfemjeaaBKnown
namespace Go.Proofs.Ytpnlicklfemjeaa
open Go.RowKit
theorem mod_step (x : Int) (M : Nat) : x % 256 + 256 * (x / 256 % 256 ^ M) = x % 256 ^ (M + 1) := by
  rw [Int.pow_succ]
  have h1 := Int.emod_add_mul_ediv x 256
  have h2 := Int.emod_add_mul_ediv (x / 256) (256 ^ M)
  have hp : (0 : Int) < 256 ^ M := Int.pow_pos (by decide)
  have h3 : (x % 256 + 256 * (x / 256 % 256 ^ M)) + (256 ^ M * 256) * (x / 256 / 256 ^ M) = x := by
    have e : (256 ^ M * 256) * (x / 256 / 256 ^ M) = 256 * (256 ^ M * (x / 256 / 256 ^ M)) := by
      rw [Int.mul_comm (256 ^ M) 256, Int.mul_assoc]
    rw [e, Int.add_assoc, ← Int.mul_add, h2, h1]
  have b1 := Int.emod_nonneg x (show (256 : Int) ≠ 0 by decide)
  have b2 := Int.emod_lt_of_pos x (show (0 : Int) < 256 by decide)
  have b3 := Int.emod_nonneg (x / 256) (Int.ne_of_gt hp)
  have b4 := Int.emod_lt_of_pos (x / 256) hp
  have h4 : x % 256 + 256 * (x / 256 % 256 ^ M) < 256 ^ M * 256 := by omega
  conv => rhs; rw [← h3]
  rw [Int.add_mul_emod_self_left, Int.emod_eq_of_lt (by omega) h4]
theorem rd_wr (B : Nat → Int) (a n : Nat) (v : Int) : ∀ (k i : Nat), i + k ≤ n → rdF (wrF B a n v) (a + i) k = v / 256 ^ i % 256 ^ k
  | 0, i, _ => by simp [rdF, Int.emod_one]
  | k + 1, i, h => by
    have ih := rd_wr B a n v k (i + 1) (by omega)
    rw [rdF, show a + i + 1 = a + (i + 1) by omega, ih]
    have e : wrF B a n v (a + i) = v / 256 ^ i % 256 := by
      unfold wrF
      rw [if_pos (by omega), Nat.add_sub_cancel_left]
    rw [e, Int.pow_succ (256 : Int) i, ← Int.ediv_ediv_of_nonneg (Int.le_of_lt (Int.pow_pos (by decide)))]
    exact mod_step _ _
theorem wrZ_yes {B : Nat → Int} {A N : Nat} {v : Int} (h : codeI (A : Int) (N : Int) = 0) : wrZ B (A : Int) (N : Int) v = wrF B A N v := by
  unfold wrZ; rw [if_pos h, Int.toNat_natCast, Int.toNat_natCast]
theorem rdZ_yes {B : Nat → Int} {A N : Nat} (h : codeI (A : Int) (N : Int) = 0) : rdZ B (A : Int) (N : Int) = rdF B A N := by
  unfold rdZ; rw [if_pos h, Int.toNat_natCast, Int.toNat_natCast]
theorem and_not7 (x : Nat) (hx : x < 32768) : bits .andNot .u64 (x : Int) 7 = ((x - x % 8 : Nat) : Int) := by
  have hU : U (x : Int) := by unfold U; omega
  refine (U_andNot _ _).ext (by unfold U; omega) fun i hi => ?_
  rw [tb_andNot hU (by unfold U; omega) i hi]
  have e : x - x % 8 = (x / 8) * 2 ^ 3 := by omega
  rw [e]
  simp only [tb, Int.toNat_natCast]
  rw [Nat.testBit_mul_two_pow]
  have d : (x / 8).testBit (i - 3) = x.testBit (3 + (i - 3)) := by
    rw [show x / 8 = x / 2 ^ 3 by rfl, Nat.testBit_div_two_pow, Nat.add_comm]
  rw [d]
  by_cases h : 3 ≤ i
  · rw [show 3 + (i - 3) = i by omega, decide_eq_true h]
    have z : Nat.testBit (7 : Int).toNat i = false := Nat.testBit_lt_two_pow (Nat.lt_of_lt_of_le (show (7 : Int).toNat < 2 ^ 3 by decide) (Nat.pow_le_pow_right (by decide) h))
    rw [z]; simp
  · rw [decide_eq_false h]
    have z : Nat.testBit (7 : Int).toNat i = true := by
      have : i = 0 ∨ i = 1 ∨ i = 2 := by omega
      rcases this with rfl | rfl | rfl <;> decide
    rw [z]; simp
def tM (t a : Int) : BusM := ⟨t, a, fun _ => .new, fun _ => 0⟩
theorem t1 (a : Int) : wrN (.new (fun _ => 0)) 61448 8 a = tM 0 a := by rfl
theorem t2 (t a : Int) : rdV (tM t a) 61448 8 = a := by rfl
theorem t3 (t a : Int) : rdN (tM t a) 61448 8 = tM t a := by rfl
theorem t4 (t a : Int) : rdV (tM t a) 61440 8 = t := by rfl
theorem t5 (t a : Int) : rdN (tM t a) 61440 8 = tM t a := by rfl
theorem t6 (t a x : Int) : wrN (tM t a) 61448 8 x = tM t x := by rfl
theorem t7 (t a : Int) : rdN (tM t a) 61440 4 = tM t a := by rfl
theorem t8 : rdB 61440 4 = false := by decide
theorem t9 : rdB 61448 8 = true := by decide
theorem t10 : rdB 61440 8 = true := by decide
theorem t11 : wrB 61448 8 = true := by decide
theorem t12 (t a : Int) : (timB (tM t a) == decide (a ≤ t)) = true := by unfold timB tM; exact beq_self_eq_true _
theorem t13 (t : Int) (ht : U t) : (timB (tM t 18446744073709551615) == (t == 18446744073709551615)) = true := by
  have h := ht.2
  unfold timB tM
  by_cases e : t = 18446744073709551615
  · subst e; decide
  · rw [decide_eq_false (by show ¬ 18446744073709551615 ≤ t; omega), beq_eq_false_iff_ne.2 e]; rfl
set_option maxRecDepth 10000 in
set_option maxHeartbeats 1000000 in
theorem btimes_any (t a : Int) (ht : U t) (w : World) :
    Calls Try.prog 5 #[.int .u64 t, .int .u64 a] w fun e w' => e = .returned (.bool true) ∧ Kept w w' := by
  have x12 := t12 t a
  have x13 := t13 t ht
  go_enter Try.func5, Try.ntmps5
  go_wp2_with fail
  refine (known7_any w).mono ?_
  rintro e w0 ⟨rfl, s0⟩
  go_wp2_with fail
  refine (one_new s0).mono ?_
  rintro e w1 ⟨b, rfl, s1⟩
  go_wp2_with fail
  refine (one_write s1 _ _ _ (U_lit (by decide))).mono ?_
  rintro e w2 ⟨rfl, s2⟩
  rw [t1] at s2
  rw [t11]
  go_wp2_with fail
  refine (one_set s2 _).mono ?_
  rintro e w3 ⟨rfl, s3⟩
  rw [show BusM.mk t (tM 0 a).a (tM 0 a).P (tM 0 a).B = tM t a from rfl] at s3
  go_wp2_with fail
  refine (one_timer s3).mono ?_
  rintro e w4 ⟨rfl, s4⟩
  go_wp2_with fail
  refine (one_read s4 _ _ (U_lit (by decide))).mono ?_
  rintro e w5 ⟨rfl, s5⟩
  rw [t3] at s5
  rw [t2, t9]
  go_wp2_with fail
  refine (one_read s5 _ _ (U_lit (by decide))).mono ?_
  rintro e w6 ⟨rfl, s6⟩
  rw [t5] at s6
  rw [t4, t10]
  go_wp2_with fail
  refine (one_write s6 _ _ _ (U_lit (by decide))).mono ?_
  rintro e w7 ⟨rfl, s7⟩
  rw [t6] at s7
  go_wp2_with fail
  refine (one_read s7 _ _ (U_lit (by decide))).mono ?_
  rintro e w8 ⟨rfl, s8⟩
  rw [t7] at s8
  rw [t8]
  go_wp2_with fail
  refine (one_timer s8).mono ?_
  rintro e w9 ⟨rfl, s9⟩
  go_wp2
  go_ret
  exact ⟨rfl, s9.k⟩
theorem rdB_low {a : Int} (h0 : 0 ≤ a) (h : a < 32768) : rdB a 1 = true ∧ rdB a 8 = (a % 8 == 0) := by
  have hp : ¬ 0 ≤ prtI a := fun hp => by obtain ⟨k, hk, e, rfl⟩ := prt_yes hp; omega
  refine ⟨by unfold rdB; exact decide_eq_true (.inl (code_0 (.inl rfl) (by omega) h)), ?_⟩
  by_cases hm : a % 8 = 0
  · rw [show rdB a 8 = true by unfold rdB; exact decide_eq_true (.inl (code_0 (by omega) hm h))]
    simp [hm]
  · rw [show rdB a 8 = false by
      unfold rdB
      refine decide_eq_false ?_
      rintro (x | x | x | x)
      · exact hm (code_zero x).2.1
      · omega
      · omega
      · exact hp x.1]
    simp [hm]
theorem rdB_high {a : Int} (h : 32768 ≤ a) (n1 : ¬ a = 61696) (n2 : ¬ a = 61952) (n3 : ¬ a = 62208) (n4 : ¬ a = 62464) (n5 : ¬ a = 61440) (n6 : ¬ a = 61448) : rdB a 1 = false ∧ rdB a 8 = false := by
  have hp : ¬ 0 ≤ prtI a := fun hp => by
    obtain ⟨k, hk, e, rfl⟩ := prt_yes hp
    omega
  constructor <;> (unfold rdB; refine decide_eq_false ?_; rintro (x | x | x | x); exact code_far h x; omega; omega; exact hp x.1)
set_option maxRecDepth 10000 in
set_option maxHeartbeats 1000000 in
theorem bwhere_low (a : Int) (ha : U a) (h : a < 32768) (w : World) :
    Calls Try.prog 7 #[.int .u64 a] w fun e w' => e = .returned (.bool true) ∧ Kept w w' := by
  have h0 := ha.1
  obtain ⟨r1, r8⟩ := rdB_low h0 h
  have rd : devB a = false := decide_eq_false (by omega)
  have hn : ¬ 61440 ≤ a := by omega
  go_enter Try.func7, Try.ntmps7
  go_wp2_with fail
  refine (known7_any w).mono ?_
  rintro e w0 ⟨rfl, s0⟩
  go_wp2_with fail
  refine (one_new s0).mono ?_
  rintro e w1 ⟨b, rfl, s1⟩
  go_wp2_with fail
  refine (one_read s1 _ _ ha).mono ?_
  rintro e w2 ⟨rfl, s2⟩
  rw [r1]
  go_wp2_with fail
  refine (one_read s2 _ _ ha).mono ?_
  rintro e w3 ⟨rfl, s3⟩
  rw [r8]
  go_wp2_with fail
  refine (one_dev s3 _).mono ?_
  rintro e w4 ⟨rfl, s4⟩
  rw [rd]
  go_wp2
  go_ret
  exact ⟨rfl, s4.k⟩
set_option maxRecDepth 10000 in
set_option maxHeartbeats 1000000 in
theorem bwhere_61696  (w : World) :
    Calls Try.prog 7 #[.int .u64 61696] w fun e w' => e = .returned (.bool true) ∧ Kept w w' := by
  have ha : U 61696 := U_lit (by decide)
  have r1 : rdB 61696 1 = true := by decide
  have r8 : rdB 61696 8 = false := by decide
  have rd : devB 61696 = true := by decide
  go_enter Try.func7, Try.ntmps7
  go_wp2_with fail
  refine (known7_any w).mono ?_
  rintro e w0 ⟨rfl, s0⟩
  go_wp2_with fail
  refine (one_new s0).mono ?_
  rintro e w1 ⟨b, rfl, s1⟩
  go_wp2_with fail
  refine (one_read s1 _ _ ha).mono ?_
  rintro e w2 ⟨rfl, s2⟩
  rw [r1]
  go_wp2_with fail
  refine (one_read s2 _ _ ha).mono ?_
  rintro e w3 ⟨rfl, s3⟩
  rw [r8]
  go_wp2_with fail
  refine (one_dev s3 _).mono ?_
  rintro e w4 ⟨rfl, s4⟩
  rw [rd]
  go_wp2
  go_ret
  exact ⟨rfl, s4.k⟩
set_option maxRecDepth 10000 in
set_option maxHeartbeats 1000000 in
theorem bwhere_61952  (w : World) :
    Calls Try.prog 7 #[.int .u64 61952] w fun e w' => e = .returned (.bool true) ∧ Kept w w' := by
  have ha : U 61952 := U_lit (by decide)
  have r1 : rdB 61952 1 = true := by decide
  have r8 : rdB 61952 8 = false := by decide
  have rd : devB 61952 = true := by decide
  go_enter Try.func7, Try.ntmps7
  go_wp2_with fail
  refine (known7_any w).mono ?_
  rintro e w0 ⟨rfl, s0⟩
  go_wp2_with fail
  refine (one_new s0).mono ?_
  rintro e w1 ⟨b, rfl, s1⟩
  go_wp2_with fail
  refine (one_read s1 _ _ ha).mono ?_
  rintro e w2 ⟨rfl, s2⟩
  rw [r1]
  go_wp2_with fail
  refine (one_read s2 _ _ ha).mono ?_
  rintro e w3 ⟨rfl, s3⟩
  rw [r8]
  go_wp2_with fail
  refine (one_dev s3 _).mono ?_
  rintro e w4 ⟨rfl, s4⟩
  rw [rd]
  go_wp2
  go_ret
  exact ⟨rfl, s4.k⟩
set_option maxRecDepth 10000 in
set_option maxHeartbeats 1000000 in
theorem bwhere_62208  (w : World) :
    Calls Try.prog 7 #[.int .u64 62208] w fun e w' => e = .returned (.bool true) ∧ Kept w w' := by
  have ha : U 62208 := U_lit (by decide)
  have r1 : rdB 62208 1 = true := by decide
  have r8 : rdB 62208 8 = false := by decide
  have rd : devB 62208 = true := by decide
  go_enter Try.func7, Try.ntmps7
  go_wp2_with fail
  refine (known7_any w).mono ?_
  rintro e w0 ⟨rfl, s0⟩
  go_wp2_with fail
  refine (one_new s0).mono ?_
  rintro e w1 ⟨b, rfl, s1⟩
  go_wp2_with fail
  refine (one_read s1 _ _ ha).mono ?_
  rintro e w2 ⟨rfl, s2⟩
  rw [r1]
  go_wp2_with fail
  refine (one_read s2 _ _ ha).mono ?_
  rintro e w3 ⟨rfl, s3⟩
  rw [r8]
  go_wp2_with fail
  refine (one_dev s3 _).mono ?_
  rintro e w4 ⟨rfl, s4⟩
  rw [rd]
  go_wp2
  go_ret
  exact ⟨rfl, s4.k⟩
set_option maxRecDepth 10000 in
set_option maxHeartbeats 1000000 in
theorem bwhere_62464  (w : World) :
    Calls Try.prog 7 #[.int .u64 62464] w fun e w' => e = .returned (.bool true) ∧ Kept w w' := by
  have ha : U 62464 := U_lit (by decide)
  have r1 : rdB 62464 1 = true := by decide
  have r8 : rdB 62464 8 = false := by decide
  have rd : devB 62464 = true := by decide
  go_enter Try.func7, Try.ntmps7
  go_wp2_with fail
  refine (known7_any w).mono ?_
  rintro e w0 ⟨rfl, s0⟩
  go_wp2_with fail
  refine (one_new s0).mono ?_
  rintro e w1 ⟨b, rfl, s1⟩
  go_wp2_with fail
  refine (one_read s1 _ _ ha).mono ?_
  rintro e w2 ⟨rfl, s2⟩
  rw [r1]
  go_wp2_with fail
  refine (one_read s2 _ _ ha).mono ?_
  rintro e w3 ⟨rfl, s3⟩
  rw [r8]
  go_wp2_with fail
  refine (one_dev s3 _).mono ?_
  rintro e w4 ⟨rfl, s4⟩
  rw [rd]
  go_wp2
  go_ret
  exact ⟨rfl, s4.k⟩
set_option maxRecDepth 10000 in
set_option maxHeartbeats 1000000 in
theorem bwhere_61440  (w : World) :
    Calls Try.prog 7 #[.int .u64 61440] w fun e w' => e = .returned (.bool true) ∧ Kept w w' := by
  have ha : U 61440 := U_lit (by decide)
  have r1 : rdB 61440 1 = false := by decide
  have r8 : rdB 61440 8 = true := by decide
  have rd : devB 61440 = true := by decide
  go_enter Try.func7, Try.ntmps7
  go_wp2_with fail
  refine (known7_any w).mono ?_
  rintro e w0 ⟨rfl, s0⟩
  go_wp2_with fail
  refine (one_new s0).mono ?_
  rintro e w1 ⟨b, rfl, s1⟩
  go_wp2_with fail
  refine (one_read s1 _ _ ha).mono ?_
  rintro e w2 ⟨rfl, s2⟩
  rw [r1]
  go_wp2_with fail
  refine (one_read s2 _ _ ha).mono ?_
  rintro e w3 ⟨rfl, s3⟩
  rw [r8]
  go_wp2_with fail
  refine (one_dev s3 _).mono ?_
  rintro e w4 ⟨rfl, s4⟩
  rw [rd]
  go_wp2
  go_ret
  exact ⟨rfl, s4.k⟩
set_option maxRecDepth 10000 in
set_option maxHeartbeats 1000000 in
theorem bwhere_61448  (w : World) :
    Calls Try.prog 7 #[.int .u64 61448] w fun e w' => e = .returned (.bool true) ∧ Kept w w' := by
  have ha : U 61448 := U_lit (by decide)
  have r1 : rdB 61448 1 = false := by decide
  have r8 : rdB 61448 8 = true := by decide
  have rd : devB 61448 = true := by decide
  go_enter Try.func7, Try.ntmps7
  go_wp2_with fail
  refine (known7_any w).mono ?_
  rintro e w0 ⟨rfl, s0⟩
  go_wp2_with fail
  refine (one_new s0).mono ?_
  rintro e w1 ⟨b, rfl, s1⟩
  go_wp2_with fail
  refine (one_read s1 _ _ ha).mono ?_
  rintro e w2 ⟨rfl, s2⟩
  rw [r1]
  go_wp2_with fail
  refine (one_read s2 _ _ ha).mono ?_
  rintro e w3 ⟨rfl, s3⟩
  rw [r8]
  go_wp2_with fail
  refine (one_dev s3 _).mono ?_
  rintro e w4 ⟨rfl, s4⟩
  rw [rd]
  go_wp2
  go_ret
  exact ⟨rfl, s4.k⟩
set_option maxRecDepth 10000 in
set_option maxHeartbeats 1000000 in
theorem bwhere_mid (a : Int) (ha : U a) (h : ¬ a < 32768) (n1 : ¬ a = 61696) (n2 : ¬ a = 61952) (n3 : ¬ a = 62208) (n4 : ¬ a = 62464) (n5 : ¬ a = 61440) (n6 : ¬ a = 61448) (h2 : a < 61440) (w : World) :
    Calls Try.prog 7 #[.int .u64 a] w fun e w' => e = .returned (.bool true) ∧ Kept w w' := by
  obtain ⟨r1, r8⟩ := rdB_high (by omega) n1 n2 n3 n4 n5 n6
  have rd : devB a = false := decide_eq_false (by omega)
  have m1 : (a == 61696) = false := beq_eq_false_iff_ne.2 n1
  have m2 : (a == 61952) = false := beq_eq_false_iff_ne.2 n2
  have m3 : (a == 62208) = false := beq_eq_false_iff_ne.2 n3
  have m4 : (a == 62464) = false := beq_eq_false_iff_ne.2 n4
  have m5 : (a == 61440) = false := beq_eq_false_iff_ne.2 n5
  have m6 : (a == 61448) = false := beq_eq_false_iff_ne.2 n6
  clear n1 n2 n3 n4 n5 n6
  have hn : ¬ 61440 ≤ a := by omega
  go_enter Try.func7, Try.ntmps7
  go_wp2_with fail
  refine (known7_any w).mono ?_
  rintro e w0 ⟨rfl, s0⟩
  go_wp2_with fail
  refine (one_new s0).mono ?_
  rintro e w1 ⟨b, rfl, s1⟩
  go_wp2_with fail
  refine (one_read s1 _ _ ha).mono ?_
  rintro e w2 ⟨rfl, s2⟩
  rw [r1]
  go_wp2_with fail
  refine (one_read s2 _ _ ha).mono ?_
  rintro e w3 ⟨rfl, s3⟩
  rw [r8]
  go_wp2_with fail
  refine (one_dev s3 _).mono ?_
  rintro e w4 ⟨rfl, s4⟩
  rw [rd]
  go_wp2
  go_ret
  exact ⟨rfl, s4.k⟩
set_option maxRecDepth 10000 in
set_option maxHeartbeats 1000000 in
theorem bwhere_dev (a : Int) (ha : U a) (n1 : ¬ a = 61696) (n2 : ¬ a = 61952) (n3 : ¬ a = 62208) (n4 : ¬ a = 62464) (n5 : ¬ a = 61440) (n6 : ¬ a = 61448) (h2 : 61440 ≤ a) (h3 : a < 62720) (w : World) :
    Calls Try.prog 7 #[.int .u64 a] w fun e w' => e = .returned (.bool true) ∧ Kept w w' := by
  obtain ⟨r1, r8⟩ := rdB_high (by omega) n1 n2 n3 n4 n5 n6
  have rd : devB a = true := decide_eq_true (by omega)
  have m1 : (a == 61696) = false := beq_eq_false_iff_ne.2 n1
  have m2 : (a == 61952) = false := beq_eq_false_iff_ne.2 n2
  have m3 : (a == 62208) = false := beq_eq_false_iff_ne.2 n3
  have m4 : (a == 62464) = false := beq_eq_false_iff_ne.2 n4
  have m5 : (a == 61440) = false := beq_eq_false_iff_ne.2 n5
  have m6 : (a == 61448) = false := beq_eq_false_iff_ne.2 n6
  clear n1 n2 n3 n4 n5 n6
  go_enter Try.func7, Try.ntmps7
  go_wp2_with fail
  refine (known7_any w).mono ?_
  rintro e w0 ⟨rfl, s0⟩
  go_wp2_with fail
  refine (one_new s0).mono ?_
  rintro e w1 ⟨b, rfl, s1⟩
  go_wp2_with fail
  refine (one_read s1 _ _ ha).mono ?_
  rintro e w2 ⟨rfl, s2⟩
  rw [r1]
  go_wp2_with fail
  refine (one_read s2 _ _ ha).mono ?_
  rintro e w3 ⟨rfl, s3⟩
  rw [r8]
  go_wp2_with fail
  refine (one_dev s3 _).mono ?_
  rintro e w4 ⟨rfl, s4⟩
  rw [rd]
  go_wp2
  go_ret
  exact ⟨rfl, s4.k⟩
set_option maxRecDepth 10000 in
set_option maxHeartbeats 1000000 in
theorem bwhere_far (a : Int) (ha : U a) (n1 : ¬ a = 61696) (n2 : ¬ a = 61952) (n3 : ¬ a = 62208) (n4 : ¬ a = 62464) (n5 : ¬ a = 61440) (n6 : ¬ a = 61448) (h2 : 61440 ≤ a) (h3 : ¬ a < 62720) (w : World) :
    Calls Try.prog 7 #[.int .u64 a] w fun e w' => e = .returned (.bool true) ∧ Kept w w' := by
  obtain ⟨r1, r8⟩ := rdB_high (by omega) n1 n2 n3 n4 n5 n6
  have rd : devB a = false := decide_eq_false (by omega)
  have m1 : (a == 61696) = false := beq_eq_false_iff_ne.2 n1
  have m2 : (a == 61952) = false := beq_eq_false_iff_ne.2 n2
  have m3 : (a == 62208) = false := beq_eq_false_iff_ne.2 n3
  have m4 : (a == 62464) = false := beq_eq_false_iff_ne.2 n4
  have m5 : (a == 61440) = false := beq_eq_false_iff_ne.2 n5
  have m6 : (a == 61448) = false := beq_eq_false_iff_ne.2 n6
  clear n1 n2 n3 n4 n5 n6
  go_enter Try.func7, Try.ntmps7
  go_wp2_with fail
  refine (known7_any w).mono ?_
  rintro e w0 ⟨rfl, s0⟩
  go_wp2_with fail
  refine (one_new s0).mono ?_
  rintro e w1 ⟨b, rfl, s1⟩
  go_wp2_with fail
  refine (one_read s1 _ _ ha).mono ?_
  rintro e w2 ⟨rfl, s2⟩
  rw [r1]
  go_wp2_with fail
  refine (one_read s2 _ _ ha).mono ?_
  rintro e w3 ⟨rfl, s3⟩
  rw [r8]
  go_wp2_with fail
  refine (one_dev s3 _).mono ?_
  rintro e w4 ⟨rfl, s4⟩
  rw [rd]
  go_wp2
  go_ret
  exact ⟨rfl, s4.k⟩
theorem bwhere_any (a : Int) (ha : U a) (w : World) :
    Calls Try.prog 7 #[.int .u64 a] w fun e w' => e = .returned (.bool true) ∧ Kept w w' := by
  by_cases h : a < 32768
  · exact bwhere_low a ha h w
  · by_cases n1 : a = 61696
    · rw [n1]; exact bwhere_61696 w
    · by_cases n2 : a = 61952
      · rw [n2]; exact bwhere_61952 w
      · by_cases n3 : a = 62208
        · rw [n3]; exact bwhere_62208 w
        · by_cases n4 : a = 62464
          · rw [n4]; exact bwhere_62464 w
          · by_cases n5 : a = 61440
            · rw [n5]; exact bwhere_61440 w
            · by_cases n6 : a = 61448
              · rw [n6]; exact bwhere_61448 w
              · by_cases h2 : 61440 ≤ a
                · by_cases h3 : a < 62720
                  · exact bwhere_dev a ha n1 n2 n3 n4 n5 n6 h2 h3 w
                  · exact bwhere_far a ha n1 n2 n3 n4 n5 n6 h2 h3 w
                · exact bwhere_mid a ha h n1 n2 n3 n4 n5 n6 (by omega) w
end Go.Proofs.Ytpnlicklfemjeaa
