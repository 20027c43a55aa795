/-
  What the statements of layer 5 turn on: sums, shifts and bits of words. Plain mathematics: nothing of the program is walked here.
-/
import Derived.Test.YtbeehnfmhclbmaaDoorAKnown
namespace Go.Proofs.YtbeehnfmhclbmaaDoor
open Go.RowKit
theorem yes_beq {x y : Int} (h : x = y) : (x == y) = true := beq_iff_eq.2 h
theorem back_sub {a b : Int} (ha : U a) : doI 36 (doI 35 a b) b = a := by
  simp only [doI, Int.reduceEq, if_true, if_false, or_true, or_self]
  rw [IntKind.wrap_u64, IntKind.wrap_u64]
  unfold U at ha
  omega
theorem back_xor {a b : Int} (ha : U a) (hb : U b) : doI 40 (doI 40 a b) b = a := by
  simp only [doI, Int.reduceEq, if_true, if_false, or_true, or_self]
  refine (U_xor _ _).ext ha fun i _ => ?_
  rw [tb_xor (U_xor _ _) hb, tb_xor ha hb]
  cases tb a i <;> cases tb b i <;> rfl
theorem or_and_sum : ∀ (n X Y : Nat), X < 2 ^ n → Y < 2 ^ n → (X ||| Y) + (X &&& Y) = X + Y
  | 0, X, Y, hX, hY => by
    obtain rfl : X = 0 := by simpa using hX
    obtain rfl : Y = 0 := by simpa using hY
    rfl
  | n + 1, X, Y, hX, hY => by
    have ih := or_and_sum n (X / 2) (Y / 2) (by omega) (by omega)
    have d1 : (X ||| Y) / 2 = X / 2 ||| Y / 2 := by simpa using Nat.or_div_two_pow (a := X) (b := Y) (n := 1)
    have d2 : (X &&& Y) / 2 = X / 2 &&& Y / 2 := by simpa using Nat.and_div_two_pow (a := X) (b := Y) (n := 1)
    have m1 : (X ||| Y) % 2 = X % 2 ||| Y % 2 := by simpa using Nat.or_mod_two_pow (a := X) (b := Y) (n := 1)
    have m2 : (X &&& Y) % 2 = X % 2 &&& Y % 2 := by simpa using Nat.and_mod_two_pow (a := X) (b := Y) (n := 1)
    rcases Nat.mod_two_eq_zero_or_one X with hx | hx <;> rcases Nat.mod_two_eq_zero_or_one Y with hy | hy <;> rw [hx, hy] at m1 m2 <;> simp only [Nat.reduceOr, Nat.reduceAnd] at m1 m2 <;> omega
/-- A sum of words that share no bit is the word of both. -/
theorem sum_bits {x y : Int} (hx : U x) (hy : U y) : IntKind.u64.wrap (bits .or .u64 x y + bits .and .u64 x y) = IntKind.u64.wrap (x + y) := by
  have h := hx.nat
  obtain ⟨X, rfl, hX⟩ := h
  obtain ⟨Y, rfl, hY⟩ := hy.nat
  rw [bits_or, bits_and]
  have e : ((BitVec.ofInt 64 (X : Int) ||| BitVec.ofInt 64 (Y : Int)).toNat : Int) + ((BitVec.ofInt 64 (X : Int) &&& BitVec.ofInt 64 (Y : Int)).toNat : Int) = (X : Int) + Y := by
    simp only [BitVec.ofInt_natCast, BitVec.toNat_or, BitVec.toNat_and, BitVec.toNat_ofNat, Nat.mod_eq_of_lt hX, Nat.mod_eq_of_lt hY]
    exact_mod_cast or_and_sum 64 X Y hX hY
  rw [e]
theorem back_sum {a b : Int} (ha : U a) (hb : U b) : IntKind.u64.wrap (doI 43 a b + doI 44 a b) = doI 35 a b := by
  simp only [doI, Int.reduceEq, if_true, if_false, or_true, or_self]
  exact sum_bits ha hb
theorem low_U {n : Int} (h0 : 0 ≤ n) (h1 : n < 64) : U n := by unfold U; omega
theorem back_shift {a b : Int} (ha : U a) : IntKind.u64.wrap (doI 37 (doI 41 a (b % 64)) (b % 64) + bits .and .u64 a (onesI (b % 64))) = a := by
  simp only [doI, Int.reduceEq, if_true, if_false, or_true, or_self]
  rw [show b % 64 % 64 = b % 64 by omega]
  generalize hn : (b % 64).toNat = n
  have hm : b % 64 = (n : Int) := by omega
  have hz : bits .and .u64 (IntKind.u64.wrap (a / 2 ^ n * 2 ^ n)) (bits .and .u64 a (onesI (b % 64))) = 0 := by
    refine (U_and _ _).ext ⟨by omega, by omega⟩ fun i hi => ?_
    rw [tb_and (U_wrap _) (U_and _ _), tb_shl (U_shr ha _), tb_and ha (U_ones _), tb_ones _ (by omega) (by omega), hm]
    rw [show tb 0 i = false by simp [tb]]
    by_cases h : n ≤ i
    · rw [decide_eq_false (show ¬ (i : Int) < (n : Int) by omega)]; simp
    · rw [decide_eq_false h]; simp
  have hs := sum_bits (U_wrap (a / 2 ^ n * 2 ^ n)) (U_and a (onesI (b % 64)))
  rw [hz] at hs
  rw [← hs, Int.add_zero, wrap_id (U_or _ _)]
  refine (U_or _ _).ext ha fun i hi => ?_
  rw [tb_or (U_wrap _) (U_and _ _), tb_shl (U_shr ha _), tb_and ha (U_ones _), tb_ones _ (by omega) (by omega), hm, tb_shr ha, decide_eq_true hi]
  by_cases h : n ≤ i
  · rw [decide_eq_true h, decide_eq_false (show ¬ (i : Int) < (n : Int) by omega), show i - n + n = i by omega]; simp
  · rw [decide_eq_false h, decide_eq_true (show (i : Int) < (n : Int) by omega)]; simp
theorem back_up {a b : Int} : doI 37 a b = IntKind.u64.wrap (a * 2 ^ (b % 64).toNat) := by
  simp only [doI, Int.reduceEq, if_true, if_false, or_true, or_self]
theorem back_down {a b : Int} : doI 42 a b = IntKind.u64.wrap (wrap64 a / 2 ^ (b % 64).toNat) := by
  simp only [doI, Int.reduceEq, if_true, if_false, or_true, or_self]
theorem back_addi {a b : Int} : doI 22 a b = doI 35 a b := by
  simp only [doI, Int.reduceEq, if_true, if_false, or_false, or_true, or_self]
/-- The lowest 32 bits with their sign, as the statements reckon them. -/
def halfI (v : Int) : Int := IntKind.u64.wrap (wrap64 (wrap32 (v % 4294967296)))
theorem sext32 (v : Int) : sextI v 32 = if v % 4294967296 < 2147483648 then v % 4294967296 else v % 4294967296 + 18446744069414584320 := by
  have h : (64 - clamp 32 1 64).toNat = 32 := by decide
  unfold sextI wrap64
  rw [h, IntKind.wrap_u64, IntKind.wrap_u64, show (2 : Int) ^ 32 = 4294967296 by decide]
  split <;> omega
theorem half_eq (v : Int) : halfI v = sextI v 32 := by
  rw [sext32 v]
  unfold halfI wrap64 wrap32
  rw [IntKind.wrap_u64]
  split <;> omega
theorem half_any (v : Int) (w : World) :
    Calls Tryd.prog 18 #[.int .u64 v] w fun e w' => e = .returned (.int .u64 (sextI v 32)) ∧ w' = w := by
  rw [← half_eq v]
  go_enter Tryd.func18, Tryd.ntmps18
  go_wp2
  go_ret
  exact ⟨rfl, rfl⟩
theorem half_s {a b : Int} : doI 45 a b = sextI (doI 35 a b) 32 := by
  simp only [doI, Int.reduceEq, if_true, if_false, or_true, or_self]
theorem half_d {a b : Int} : doI 46 a b = sextI (doI 36 a b) 32 := by
  simp only [doI, Int.reduceEq, if_true, if_false, or_self]
theorem half_l {a b : Int} : doI 47 a b = sextI (doI 37 a (b % 32)) 32 := by
  simp only [doI, Int.reduceEq, if_true, if_false, or_true, or_self]
  rw [show b % 32 % 64 = b % 32 by omega]
theorem half_r {a b : Int} : doI 48 a b = sextI (doI 41 (a % 4294967296) (b % 32)) 32 := by
  simp only [doI, Int.reduceEq, if_true, if_false, or_true, or_self]
  rw [show b % 32 % 64 = b % 32 by omega]
theorem half_q {a b : Int} : doI 49 a b = doI 42 (sextI a 32) (b % 32) := by
  simp only [doI, Int.reduceEq, if_true, if_false, or_true, or_self]
  rw [show b % 32 % 64 = b % 32 by omega]
theorem half_i {a b : Int} : doI 31 a b = sextI (doI 35 a b) 32 := by
  simp only [doI, Int.reduceEq, if_true, if_false, or_false, or_true, or_self]
theorem half_lw {a : Int} : extI 13 a = sextI a 32 := by
  simp only [extI, Int.reduceEq, if_true, if_false, or_false, or_self]
theorem half_lwu {a : Int} : extI 17 a = a % 4294967296 := by
  simp only [extI, Int.reduceEq, if_true, if_false, or_false, or_self]
theorem csr_s {o v : Int} : csrI 55 o v = bits .or .u64 o v := by
  simp only [csrI, Int.reduceEq, if_true, if_false, or_false, or_self]
theorem csr_c {o v : Int} : csrI 56 o v = bits .andNot .u64 o v := by
  simp only [csrI, Int.reduceEq, if_true, if_false, or_false, or_self]
theorem csr_w {o v : Int} : csrI 54 o v = v := by
  simp only [csrI, Int.reduceEq, if_true, if_false, or_false, or_self]
theorem csr_si {o v : Int} : csrI 58 o v = csrI 55 o v := by
  simp only [csrI, Int.reduceEq, if_true, if_false, or_false, or_true, or_self]
theorem csr_ci {o v : Int} : csrI 59 o v = csrI 56 o v := by
  simp only [csrI, Int.reduceEq, if_true, if_false, or_false, or_true, or_self]
theorem csr_no {o v : Int} : csrI 35 o v = o := by
  simp only [csrI, Int.reduceEq, if_false, or_self]
theorem U_csr {op o v : Int} (ho : U o) (hv : U v) : U (csrI op o v) := by
  unfold csrI
  exact U_ite hv (U_ite (U_or _ _) (U_ite (U_andNot _ _) ho))
theorem csr_1 {o v : Int} (ho : U o) (hv : U v) : bits .and .u64 (csrI 55 o v) v = v := by
  rw [csr_s]
  refine (U_and _ _).ext hv fun i _ => ?_
  rw [tb_and (U_or _ _) hv, tb_or ho hv]
  cases tb o i <;> cases tb v i <;> rfl
theorem csr_2 {o v : Int} (ho : U o) (hv : U v) : bits .andNot .u64 (csrI 55 o v) v = bits .andNot .u64 o v := by
  rw [csr_s]
  refine (U_andNot _ _).ext (U_andNot _ _) fun i hi => ?_
  rw [tb_andNot (U_or _ _) hv i hi, tb_or ho hv, tb_andNot ho hv i hi]
  cases tb o i <;> cases tb v i <;> rfl
theorem csr_3 {o v : Int} (ho : U o) (hv : U v) : bits .and .u64 (csrI 56 o v) v = 0 := by
  rw [csr_c]
  refine (U_and _ _).ext ⟨by omega, by omega⟩ fun i hi => ?_
  rw [tb_and (U_andNot _ _) hv, tb_andNot ho hv i hi, show tb 0 i = false by simp [tb]]
  cases tb o i <;> cases tb v i <;> rfl
theorem csr_4 {o v : Int} (ho : U o) (hv : U v) : bits .andNot .u64 (csrI 56 o v) v = bits .andNot .u64 o v := by
  rw [csr_c]
  refine (U_andNot _ _).ext (U_andNot _ _) fun i hi => ?_
  rw [tb_andNot (U_andNot _ _) hv i hi, tb_andNot ho hv i hi]
  cases tb o i <;> cases tb v i <;> rfl
theorem steps_up {a x y : Int} (ha : U a) (h0 : 0 ≤ x) (h1 : x < 32) (h2 : 0 ≤ y) (h3 : y < 32) : doI 37 (doI 37 a x) y = doI 37 a (x + y) := by
  simp only [back_up]
  rw [show x % 64 = x by omega, show y % 64 = y by omega, show (x + y) % 64 = x + y by omega]
  refine (U_wrap _).ext (U_wrap _) fun i hi => ?_
  rw [tb_shl (U_wrap _), tb_shl ha, tb_shl ha, show (x + y).toNat = x.toNat + y.toNat by omega, decide_eq_true hi]
  by_cases h : y.toNat ≤ i
  · rw [decide_eq_true h, decide_eq_true (show i - y.toNat < 64 by omega), Nat.sub_sub, Nat.add_comm y.toNat]
    by_cases h' : x.toNat ≤ i - y.toNat
    · rw [decide_eq_true h', decide_eq_true (show x.toNat + y.toNat ≤ i by omega)]; rfl
    · rw [decide_eq_false h', decide_eq_false (show ¬ x.toNat + y.toNat ≤ i by omega)]; rfl
  · rw [decide_eq_false h, decide_eq_false (show ¬ x.toNat + y.toNat ≤ i by omega)]; rfl
theorem srl_at {a b : Int} : doI 41 a b = a / 2 ^ (b % 64).toNat := by
  simp only [doI, Int.reduceEq, if_true, if_false, or_true, or_self]
theorem steps_down {a x y : Int} (ha : U a) (h0 : 0 ≤ x) (h1 : x < 32) (h2 : 0 ≤ y) (h3 : y < 32) : doI 41 (doI 41 a x) y = doI 41 a (x + y) := by
  simp only [srl_at]
  rw [show x % 64 = x by omega, show y % 64 = y by omega, show (x + y) % 64 = x + y by omega]
  refine (U_shr (U_shr ha _) _).ext (U_shr ha _) fun i hi => ?_
  rw [tb_shr (U_shr ha _), tb_shr ha, tb_shr ha, show (x + y).toNat = x.toNat + y.toNat by omega, Nat.add_assoc, Nat.add_comm y.toNat]
theorem steps_sign {a x y : Int} (ha : U a) (h0 : 0 ≤ x) (h1 : x < 32) (h2 : 0 ≤ y) (h3 : y < 32) : doI 42 (doI 42 a x) y = doI 42 a (x + y) := by
  simp only [back_down]
  rw [show x % 64 = x by omega, show y % 64 = y by omega, show (x + y) % 64 = x + y by omega]
  refine (U_wrap _).ext (U_wrap _) fun i hi => ?_
  rw [tb_sar (U_wrap _) _ _ hi, tb_sar ha _ _ hi, show (x + y).toNat = x.toNat + y.toNat by omega]
  by_cases h : i + y.toNat < 64
  · rw [if_pos h, tb_sar ha _ _ h, Nat.add_assoc, Nat.add_comm y.toNat]
  · rw [if_neg h, tb_sar ha _ _ (by decide), if_neg (show ¬ i + (x.toNat + y.toNat) < 64 by omega)]
    by_cases h' : 63 + x.toNat < 64
    · rw [if_pos h', show 63 + x.toNat = 63 by omega]
    · rw [if_neg h']
theorem steps_round {a x : Int} : doI 37 a (64 + x) = doI 37 a x := by
  simp only [back_up]
  rw [show (64 + x) % 64 = x % 64 by omega]
end Go.Proofs.YtbeehnfmhclbmaaDoor
