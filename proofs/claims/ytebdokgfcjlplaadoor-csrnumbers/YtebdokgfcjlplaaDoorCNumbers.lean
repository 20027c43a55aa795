/-
  What statement CsrNumbers asks: walked for every argument.
-/
import Derived.Test.YtebdokgfcjlplaaDoorCKnown
namespace Go.Proofs.YtebdokgfcjlplaaDoor
open Go.RowKit
theorem num_nat (k : Nat) (h : k < 29) : numI (k : Int) = numL.getD k 0 := by unfold numI; rw [if_pos (by omega), Int.toNat_natCast]
theorem num_pos (k : Nat) (h : k < 29) : 256 ≤ numI (k : Int) := by
  rw [num_nat k h]
  exact (show ∀ k : Fin 29, 256 ≤ numL.getD k.val 0 by decide +kernel) ⟨k, h⟩
theorem num_inj {j k : Nat} (hj : j < 29) (hk : k < 29) (h : numI (j : Int) = numI (k : Int)) : j = k := by
  rw [num_nat j hj, num_nat k hk] at h
  have := (show ∀ j k : Fin 29, numL.getD j.val 0 = numL.getD k.val 0 → j.val = k.val by decide +kernel) ⟨j, hj⟩ ⟨k, hk⟩ h
  exact this
theorem idx_num (k : Nat) (h : k < 29) : idxI (numI (k : Int)) = k := by
  by_cases h0 : 0 ≤ idxI (numI (k : Int))
  · obtain ⟨i, hi, he, hn, _⟩ := idx_yes h0
    rw [he, num_inj hi h hn]
  · exact absurd rfl ((idx_no h0).2 k h)
theorem num_none {a : Int} (h : ¬ (0 ≤ a ∧ a < 29)) : numI a = -1 := by unfold numI; rw [if_neg h]
theorem mask_none {a : Int} (h : ¬ (0 ≤ a ∧ a < 29)) : maskI a = 0 := by unfold maskI; rw [if_neg h]
set_option maxRecDepth 10000 in
set_option maxHeartbeats 1000000 in
theorem cnum_1 (a b x y : Int) (hx : numI a = x) (hy : numI b = y) (h0 : 0 ≤ a) (h1 : a < 29) (x0 : 0 ≤ x) (hix : idxI x = a) (e1 : (x == y) = true) (e2 : (a == b) = true) {W : World} (hT : Tab8 W) :
    Calls Tryd.prog 6 #[.int .i64 a, .int .i64 b] W fun e w' => e = .returned (.bool true) ∧ Kept W w' := by
  go_enter Tryd.func6, Tryd.ntmps6
  go_wp2_with fail
  refine (known8_any hT (Only.refl _ W)).mono ?_
  rintro e w1 ⟨rfl, k1⟩
  go_wp2_with fail
  refine (cnum_any (hT.kept k1) _).mono ?_
  rintro e w2 ⟨rfl, k2⟩
  have t2 := k1.then k2
  go_wp2_with fail
  refine (cnum_any (hT.kept t2) _).mono ?_
  rintro e w3 ⟨rfl, k3⟩
  have t3 := t2.then k3
  rw [hy]
  go_wp2_with fail
  refine (cidx_any (hT.kept t3) _).mono ?_
  rintro e w4 ⟨rfl, k4⟩
  have t4 := t3.then k4
  rw [hix]
  go_wp2_with fail
  refine (cidx_any (hT.kept t4) _).mono ?_
  rintro e w5 ⟨rfl, k5⟩
  have t5 := t4.then k5
  by_cases hi : 0 ≤ idxI a
  · obtain ⟨m, hm, he, hn, _⟩ := idx_yes hi
    rw [he]
    have em : ((m : Int) == -1) = false := beq_eq_false_iff_ne.2 (by omega)
    go_wp2_with fail
    refine (cnum_any (hT.kept t5) _).mono ?_
    rintro e w6 ⟨rfl, k6⟩
    rw [hn]
    go_wp2
    go_ret
    exact ⟨rfl, t5.then k6⟩
  · rw [(idx_no hi).1]
    go_wp2
    go_ret
    exact ⟨rfl, t5⟩
set_option maxRecDepth 10000 in
set_option maxHeartbeats 1000000 in
theorem cnum_2 (a b x y : Int) (hx : numI a = x) (hy : numI b = y) (h0 : 0 ≤ a) (h1 : a < 29) (x0 : 0 ≤ x) (hix : idxI x = a) (e1 : (x == y) = false) (e2 : (a == b) = false) (e3 : (x == -1) = false) {W : World} (hT : Tab8 W) :
    Calls Tryd.prog 6 #[.int .i64 a, .int .i64 b] W fun e w' => e = .returned (.bool true) ∧ Kept W w' := by
  go_enter Tryd.func6, Tryd.ntmps6
  go_wp2_with fail
  refine (known8_any hT (Only.refl _ W)).mono ?_
  rintro e w1 ⟨rfl, k1⟩
  go_wp2_with fail
  refine (cnum_any (hT.kept k1) _).mono ?_
  rintro e w2 ⟨rfl, k2⟩
  have t2 := k1.then k2
  go_wp2_with fail
  refine (cnum_any (hT.kept t2) _).mono ?_
  rintro e w3 ⟨rfl, k3⟩
  have t3 := t2.then k3
  rw [hy]
  go_wp2_with fail
  refine (cidx_any (hT.kept t3) _).mono ?_
  rintro e w4 ⟨rfl, k4⟩
  have t4 := t3.then k4
  rw [hix]
  go_wp2_with fail
  refine (cidx_any (hT.kept t4) _).mono ?_
  rintro e w5 ⟨rfl, k5⟩
  have t5 := t4.then k5
  by_cases hi : 0 ≤ idxI a
  · obtain ⟨m, hm, he, hn, _⟩ := idx_yes hi
    rw [he]
    have em : ((m : Int) == -1) = false := beq_eq_false_iff_ne.2 (by omega)
    go_wp2_with fail
    refine (cnum_any (hT.kept t5) _).mono ?_
    rintro e w6 ⟨rfl, k6⟩
    rw [hn]
    go_wp2
    go_ret
    exact ⟨rfl, t5.then k6⟩
  · rw [(idx_no hi).1]
    go_wp2
    go_ret
    exact ⟨rfl, t5⟩
set_option maxRecDepth 10000 in
set_option maxHeartbeats 1000000 in
theorem cnum_3a (a b x y : Int) (hx : numI a = x) (hy : numI b = y) (h0 : ¬ 0 ≤ a) (x0 : ¬ 0 ≤ x) (hmz : maskI a = 0) (e1 : (x == y) = true) (e2 : (a == b) = true) {W : World} (hT : Tab8 W) :
    Calls Tryd.prog 6 #[.int .i64 a, .int .i64 b] W fun e w' => e = .returned (.bool true) ∧ Kept W w' := by
  go_enter Tryd.func6, Tryd.ntmps6
  go_wp2_with fail
  refine (known8_any hT (Only.refl _ W)).mono ?_
  rintro e w1 ⟨rfl, k1⟩
  go_wp2_with fail
  refine (cnum_any (hT.kept k1) _).mono ?_
  rintro e w2 ⟨rfl, k2⟩
  have t2 := k1.then k2
  go_wp2_with fail
  refine (cnum_any (hT.kept t2) _).mono ?_
  rintro e w3 ⟨rfl, k3⟩
  have t3 := t2.then k3
  rw [hy]
  go_wp2_with fail
  refine (cmask_any (hT.kept t3) _).mono ?_
  rintro e w4 ⟨rfl, k4⟩
  have t4 := t3.then k4
  rw [hmz]
  go_wp2_with fail
  refine (cidx_any (hT.kept t4) _).mono ?_
  rintro e w5 ⟨rfl, k5⟩
  have t5 := t4.then k5
  by_cases hi : 0 ≤ idxI a
  · obtain ⟨m, hm, he, hn, _⟩ := idx_yes hi
    rw [he]
    have em : ((m : Int) == -1) = false := beq_eq_false_iff_ne.2 (by omega)
    go_wp2_with fail
    refine (cnum_any (hT.kept t5) _).mono ?_
    rintro e w6 ⟨rfl, k6⟩
    rw [hn]
    go_wp2
    go_ret
    exact ⟨rfl, t5.then k6⟩
  · rw [(idx_no hi).1]
    go_wp2
    go_ret
    exact ⟨rfl, t5⟩
set_option maxRecDepth 10000 in
set_option maxHeartbeats 1000000 in
theorem cnum_4a (a b x y : Int) (hx : numI a = x) (hy : numI b = y) (h0 : ¬ 0 ≤ a) (x0 : ¬ 0 ≤ x) (hmz : maskI a = 0) (e1 : (x == y) = true) (e2 : (a == b) = false) (e3 : (x == -1) = true) (e4 : (y == -1) = true) {W : World} (hT : Tab8 W) :
    Calls Tryd.prog 6 #[.int .i64 a, .int .i64 b] W fun e w' => e = .returned (.bool true) ∧ Kept W w' := by
  go_enter Tryd.func6, Tryd.ntmps6
  go_wp2_with fail
  refine (known8_any hT (Only.refl _ W)).mono ?_
  rintro e w1 ⟨rfl, k1⟩
  go_wp2_with fail
  refine (cnum_any (hT.kept k1) _).mono ?_
  rintro e w2 ⟨rfl, k2⟩
  have t2 := k1.then k2
  go_wp2_with fail
  refine (cnum_any (hT.kept t2) _).mono ?_
  rintro e w3 ⟨rfl, k3⟩
  have t3 := t2.then k3
  rw [hy]
  go_wp2_with fail
  refine (cmask_any (hT.kept t3) _).mono ?_
  rintro e w4 ⟨rfl, k4⟩
  have t4 := t3.then k4
  rw [hmz]
  go_wp2_with fail
  refine (cidx_any (hT.kept t4) _).mono ?_
  rintro e w5 ⟨rfl, k5⟩
  have t5 := t4.then k5
  by_cases hi : 0 ≤ idxI a
  · obtain ⟨m, hm, he, hn, _⟩ := idx_yes hi
    rw [he]
    have em : ((m : Int) == -1) = false := beq_eq_false_iff_ne.2 (by omega)
    go_wp2_with fail
    refine (cnum_any (hT.kept t5) _).mono ?_
    rintro e w6 ⟨rfl, k6⟩
    rw [hn]
    go_wp2
    go_ret
    exact ⟨rfl, t5.then k6⟩
  · rw [(idx_no hi).1]
    go_wp2
    go_ret
    exact ⟨rfl, t5⟩
set_option maxRecDepth 10000 in
set_option maxHeartbeats 1000000 in
theorem cnum_5a (a b x y : Int) (hx : numI a = x) (hy : numI b = y) (h0 : ¬ 0 ≤ a) (x0 : ¬ 0 ≤ x) (hmz : maskI a = 0) (e1 : (x == y) = false) (e2 : (a == b) = false) (e3 : (x == -1) = true) (e4 : (y == -1) = false) {W : World} (hT : Tab8 W) :
    Calls Tryd.prog 6 #[.int .i64 a, .int .i64 b] W fun e w' => e = .returned (.bool true) ∧ Kept W w' := by
  go_enter Tryd.func6, Tryd.ntmps6
  go_wp2_with fail
  refine (known8_any hT (Only.refl _ W)).mono ?_
  rintro e w1 ⟨rfl, k1⟩
  go_wp2_with fail
  refine (cnum_any (hT.kept k1) _).mono ?_
  rintro e w2 ⟨rfl, k2⟩
  have t2 := k1.then k2
  go_wp2_with fail
  refine (cnum_any (hT.kept t2) _).mono ?_
  rintro e w3 ⟨rfl, k3⟩
  have t3 := t2.then k3
  rw [hy]
  go_wp2_with fail
  refine (cmask_any (hT.kept t3) _).mono ?_
  rintro e w4 ⟨rfl, k4⟩
  have t4 := t3.then k4
  rw [hmz]
  go_wp2_with fail
  refine (cidx_any (hT.kept t4) _).mono ?_
  rintro e w5 ⟨rfl, k5⟩
  have t5 := t4.then k5
  by_cases hi : 0 ≤ idxI a
  · obtain ⟨m, hm, he, hn, _⟩ := idx_yes hi
    rw [he]
    have em : ((m : Int) == -1) = false := beq_eq_false_iff_ne.2 (by omega)
    go_wp2_with fail
    refine (cnum_any (hT.kept t5) _).mono ?_
    rintro e w6 ⟨rfl, k6⟩
    rw [hn]
    go_wp2
    go_ret
    exact ⟨rfl, t5.then k6⟩
  · rw [(idx_no hi).1]
    go_wp2
    go_ret
    exact ⟨rfl, t5⟩
set_option maxRecDepth 10000 in
set_option maxHeartbeats 1000000 in
theorem cnum_3b (a b x y : Int) (hx : numI a = x) (hy : numI b = y) (h0 : 0 ≤ a) (h1 : ¬ a < 29) (x0 : ¬ 0 ≤ x) (hmz : maskI a = 0) (e1 : (x == y) = true) (e2 : (a == b) = true) {W : World} (hT : Tab8 W) :
    Calls Tryd.prog 6 #[.int .i64 a, .int .i64 b] W fun e w' => e = .returned (.bool true) ∧ Kept W w' := by
  go_enter Tryd.func6, Tryd.ntmps6
  go_wp2_with fail
  refine (known8_any hT (Only.refl _ W)).mono ?_
  rintro e w1 ⟨rfl, k1⟩
  go_wp2_with fail
  refine (cnum_any (hT.kept k1) _).mono ?_
  rintro e w2 ⟨rfl, k2⟩
  have t2 := k1.then k2
  go_wp2_with fail
  refine (cnum_any (hT.kept t2) _).mono ?_
  rintro e w3 ⟨rfl, k3⟩
  have t3 := t2.then k3
  rw [hy]
  go_wp2_with fail
  refine (cmask_any (hT.kept t3) _).mono ?_
  rintro e w4 ⟨rfl, k4⟩
  have t4 := t3.then k4
  rw [hmz]
  go_wp2_with fail
  refine (cidx_any (hT.kept t4) _).mono ?_
  rintro e w5 ⟨rfl, k5⟩
  have t5 := t4.then k5
  by_cases hi : 0 ≤ idxI a
  · obtain ⟨m, hm, he, hn, _⟩ := idx_yes hi
    rw [he]
    have em : ((m : Int) == -1) = false := beq_eq_false_iff_ne.2 (by omega)
    go_wp2_with fail
    refine (cnum_any (hT.kept t5) _).mono ?_
    rintro e w6 ⟨rfl, k6⟩
    rw [hn]
    go_wp2
    go_ret
    exact ⟨rfl, t5.then k6⟩
  · rw [(idx_no hi).1]
    go_wp2
    go_ret
    exact ⟨rfl, t5⟩
set_option maxRecDepth 10000 in
set_option maxHeartbeats 1000000 in
theorem cnum_4b (a b x y : Int) (hx : numI a = x) (hy : numI b = y) (h0 : 0 ≤ a) (h1 : ¬ a < 29) (x0 : ¬ 0 ≤ x) (hmz : maskI a = 0) (e1 : (x == y) = true) (e2 : (a == b) = false) (e3 : (x == -1) = true) (e4 : (y == -1) = true) {W : World} (hT : Tab8 W) :
    Calls Tryd.prog 6 #[.int .i64 a, .int .i64 b] W fun e w' => e = .returned (.bool true) ∧ Kept W w' := by
  go_enter Tryd.func6, Tryd.ntmps6
  go_wp2_with fail
  refine (known8_any hT (Only.refl _ W)).mono ?_
  rintro e w1 ⟨rfl, k1⟩
  go_wp2_with fail
  refine (cnum_any (hT.kept k1) _).mono ?_
  rintro e w2 ⟨rfl, k2⟩
  have t2 := k1.then k2
  go_wp2_with fail
  refine (cnum_any (hT.kept t2) _).mono ?_
  rintro e w3 ⟨rfl, k3⟩
  have t3 := t2.then k3
  rw [hy]
  go_wp2_with fail
  refine (cmask_any (hT.kept t3) _).mono ?_
  rintro e w4 ⟨rfl, k4⟩
  have t4 := t3.then k4
  rw [hmz]
  go_wp2_with fail
  refine (cidx_any (hT.kept t4) _).mono ?_
  rintro e w5 ⟨rfl, k5⟩
  have t5 := t4.then k5
  by_cases hi : 0 ≤ idxI a
  · obtain ⟨m, hm, he, hn, _⟩ := idx_yes hi
    rw [he]
    have em : ((m : Int) == -1) = false := beq_eq_false_iff_ne.2 (by omega)
    go_wp2_with fail
    refine (cnum_any (hT.kept t5) _).mono ?_
    rintro e w6 ⟨rfl, k6⟩
    rw [hn]
    go_wp2
    go_ret
    exact ⟨rfl, t5.then k6⟩
  · rw [(idx_no hi).1]
    go_wp2
    go_ret
    exact ⟨rfl, t5⟩
set_option maxRecDepth 10000 in
set_option maxHeartbeats 1000000 in
theorem cnum_5b (a b x y : Int) (hx : numI a = x) (hy : numI b = y) (h0 : 0 ≤ a) (h1 : ¬ a < 29) (x0 : ¬ 0 ≤ x) (hmz : maskI a = 0) (e1 : (x == y) = false) (e2 : (a == b) = false) (e3 : (x == -1) = true) (e4 : (y == -1) = false) {W : World} (hT : Tab8 W) :
    Calls Tryd.prog 6 #[.int .i64 a, .int .i64 b] W fun e w' => e = .returned (.bool true) ∧ Kept W w' := by
  go_enter Tryd.func6, Tryd.ntmps6
  go_wp2_with fail
  refine (known8_any hT (Only.refl _ W)).mono ?_
  rintro e w1 ⟨rfl, k1⟩
  go_wp2_with fail
  refine (cnum_any (hT.kept k1) _).mono ?_
  rintro e w2 ⟨rfl, k2⟩
  have t2 := k1.then k2
  go_wp2_with fail
  refine (cnum_any (hT.kept t2) _).mono ?_
  rintro e w3 ⟨rfl, k3⟩
  have t3 := t2.then k3
  rw [hy]
  go_wp2_with fail
  refine (cmask_any (hT.kept t3) _).mono ?_
  rintro e w4 ⟨rfl, k4⟩
  have t4 := t3.then k4
  rw [hmz]
  go_wp2_with fail
  refine (cidx_any (hT.kept t4) _).mono ?_
  rintro e w5 ⟨rfl, k5⟩
  have t5 := t4.then k5
  by_cases hi : 0 ≤ idxI a
  · obtain ⟨m, hm, he, hn, _⟩ := idx_yes hi
    rw [he]
    have em : ((m : Int) == -1) = false := beq_eq_false_iff_ne.2 (by omega)
    go_wp2_with fail
    refine (cnum_any (hT.kept t5) _).mono ?_
    rintro e w6 ⟨rfl, k6⟩
    rw [hn]
    go_wp2
    go_ret
    exact ⟨rfl, t5.then k6⟩
  · rw [(idx_no hi).1]
    go_wp2
    go_ret
    exact ⟨rfl, t5⟩
theorem cnum_all (a b : Int) {W : World} (hT : Tab8 W) :
    Calls Tryd.prog 6 #[.int .i64 a, .int .i64 b] W fun e w' => e = .returned (.bool true) ∧ Kept W w' := by
  have heq : a = b → (numI a == numI b) = true ∧ (a == b) = true := fun e => by rw [e]; exact ⟨beq_self_eq_true _, beq_self_eq_true _⟩
  by_cases h : 0 ≤ a ∧ a < 29
  · obtain ⟨k, rfl⟩ := Int.eq_ofNat_of_zero_le h.1
    have hk : k < 29 := by omega
    have hp := num_pos k hk
    by_cases e : (k : Int) = b
    · exact cnum_1 _ _ _ _ rfl rfl h.1 h.2 (by omega) (idx_num k hk) (heq e).1 (heq e).2 hT
    · refine cnum_2 _ _ _ _ rfl rfl h.1 h.2 (by omega) (idx_num k hk) (beq_eq_false_iff_ne.2 fun he => ?_) (beq_eq_false_iff_ne.2 e) (beq_eq_false_iff_ne.2 (by omega)) hT
      by_cases hb : 0 ≤ b ∧ b < 29
      · obtain ⟨j, rfl⟩ := Int.eq_ofNat_of_zero_le hb.1
        exact e (by rw [num_inj hk (by omega) he])
      · rw [num_none hb] at he; omega
  · have hx := num_none h
    have hm := mask_none h
    by_cases e : a = b
    · by_cases h0 : 0 ≤ a
      · exact cnum_3b _ _ _ _ hx rfl h0 (by omega) (by omega) hm (by rw [← hx]; exact (heq e).1) (heq e).2 hT
      · exact cnum_3a _ _ _ _ hx rfl h0 (by omega) hm (by rw [← hx]; exact (heq e).1) (heq e).2 hT
    · have e2 : (a == b) = false := beq_eq_false_iff_ne.2 e
      by_cases hb : 0 ≤ b ∧ b < 29
      · obtain ⟨j, rfl⟩ := Int.eq_ofNat_of_zero_le hb.1
        have hp := num_pos j (by omega)
        have e1 : ((-1 : Int) == numI (j : Int)) = false := beq_eq_false_iff_ne.2 (by omega)
        have e4 : (numI (j : Int) == -1) = false := beq_eq_false_iff_ne.2 (by omega)
        by_cases h0 : 0 ≤ a
        · exact cnum_5b _ _ _ _ hx rfl h0 (by omega) (by omega) hm e1 e2 rfl e4 hT
        · exact cnum_5a _ _ _ _ hx rfl h0 (by omega) hm e1 e2 rfl e4 hT
      · have hy := num_none hb
        by_cases h0 : 0 ≤ a
        · exact cnum_4b _ _ _ _ hx hy h0 (by omega) (by omega) hm rfl e2 rfl rfl hT
        · exact cnum_4a _ _ _ _ hx hy h0 (by omega) hm rfl e2 rfl rfl hT
end Go.Proofs.YtebdokgfcjlplaaDoor
