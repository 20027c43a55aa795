/-
  Words with bits of another one put in, and what MPP becomes: bit by bit. Plain facts: no call of the program is walked here.
-/
import Derived.Test.YtpfblbleendpiaaDoorCsrDoc
namespace Go.Proofs.YtpfblbleendpiaaDoor
open Go.RowKit
theorem tb_put {o v m : Int} (ho : U o) (hv : U v) (hm : U m) (i : Nat) (hi : i < 64) : tb (putI o v m) i = if tb m i then tb v i else tb o i := by
  unfold putI
  rw [tb_or (U_andNot _ _) (U_and _ _), tb_andNot ho hm i hi, tb_and hv hm]
  cases tb m i <;> simp
theorem tb_2 (i : Nat) (h : 2 ≤ i) : tb 2 i = false := Nat.testBit_lt_two_pow (Nat.lt_of_lt_of_le (by decide : 2 < 2 ^ 2) (Nat.pow_le_pow_right (by decide) h))
theorem tb_3 (i : Nat) (h : 2 ≤ i) : tb 3 i = false := Nat.testBit_lt_two_pow (Nat.lt_of_lt_of_le (by decide : 3 < 2 ^ 2) (Nat.pow_le_pow_right (by decide) h))
theorem U_lit2 : U 2 := by unfold U; omega
theorem U_lit3 : U 3 := by unfold U; omega
theorem U_lit6144 : U 6144 := by unfold U; omega
theorem is_two {v : Int} (hv : U v) : bits .and .u64 (v / 2048) 3 = 2 ↔ tb v 11 = false ∧ tb v 12 = true := by
  have hs : U (v / 2048) := U_shr hv 11
  have ht : ∀ i, tb (bits .and .u64 (v / 2048) 3) i = (tb v (i + 11) && tb 3 i) := fun i => by
    rw [tb_and hs U_lit3, show v / 2048 = v / 2 ^ 11 from rfl, tb_shr hv]
  constructor
  · intro h
    have h0 := ht 0
    have h1 := ht 1
    rw [h] at h0 h1
    have a0 : tb 2 0 = false := by decide
    have a1 : tb 2 1 = true := by decide
    have b0 : tb 3 0 = true := by decide
    have b1 : tb 3 1 = true := by decide
    rw [a0, b0] at h0
    rw [a1, b1] at h1
    simp at h0 h1
    exact ⟨h0.symm ▸ rfl, h1.symm ▸ rfl⟩
  · rintro ⟨h0, h1⟩
    refine (U_and _ _).ext U_lit2 fun i _ => ?_
    rw [ht i]
    by_cases e0 : i = 0
    · subst e0; rw [Nat.zero_add, h0]; decide
    · by_cases e1 : i = 1
      · subst e1; rw [show 1 + 11 = 12 from rfl, h1]; decide
      · rw [tb_2 i (by omega), tb_3 i (by omega), Bool.and_false]
theorem tb_6144 : ∀ i : Fin 64, tb 6144 i.val = decide (i.val = 11 ∨ i.val = 12) := by decide
theorem tb_mpp {v : Int} (hv : U v) (i : Nat) (hi : i < 64) : tb (mppI v) i = if (tb v 11 = false ∧ tb v 12 = true) ∧ (i = 11 ∨ i = 12) then false else tb v i := by
  have h6 := tb_6144 ⟨i, hi⟩
  simp only at h6
  unfold mppI
  by_cases h : bits .and .u64 (v / 2048) 3 = 2
  · rw [if_pos h, tb_andNot hv U_lit6144 i hi, h6]
    have h' := (is_two hv).1 h
    by_cases e : i = 11 ∨ i = 12
    · rw [if_pos ⟨h', e⟩, decide_eq_true e, Bool.not_true, Bool.and_false]
    · rw [if_neg (fun x => e x.2), decide_eq_false e, Bool.not_false, Bool.and_true]
  · rw [if_neg h, if_neg (fun x => h ((is_two hv).2 x.1))]
/-- MPP told of what is written, or of what is there then: where both bits may be written it is the same. -/
theorem put_mpp {o v m : Int} (ho : U o) (hv : U v) (hm : U m) (h1 : tb m 11 = true) (h2 : tb m 12 = true) : putI o (mppI v) m = mppI (putI o v m) := by
  refine (U_put _ _ _).ext (U_mpp (U_put _ _ _)) fun i hi => ?_
  rw [tb_put ho (U_mpp hv) hm i hi, tb_mpp hv i hi, tb_mpp (U_put _ _ _) i hi, tb_put ho hv hm i hi, tb_put ho hv hm 11 (by decide), tb_put ho hv hm 12 (by decide), h1, h2]
  simp only [if_true]
  by_cases c : (tb v 11 = false ∧ tb v 12 = true) ∧ (i = 11 ∨ i = 12)
  · rw [if_pos c, if_pos c]
    rcases c.2 with rfl | rfl
    · rw [h1]; rfl
    · rw [h2]; rfl
  · rw [if_neg c, if_neg c]
/-- Where neither may be written it says nothing. -/
theorem put_mpp_no {o v m : Int} (ho : U o) (hv : U v) (hm : U m) (h1 : tb m 11 = false) (h2 : tb m 12 = false) : putI o (mppI v) m = putI o v m := by
  refine (U_put _ _ _).ext (U_put _ _ _) fun i hi => ?_
  rw [tb_put ho (U_mpp hv) hm i hi, tb_put ho hv hm i hi, tb_mpp hv i hi]
  by_cases c : (tb v 11 = false ∧ tb v 12 = true) ∧ (i = 11 ∨ i = 12)
  · rcases c.2 with rfl | rfl
    · rw [h1]; rfl
    · rw [h2]; rfl
  · rw [if_neg c]
theorem bits_11 (v : Int) : bitsI v 11 2 = bits .and .u64 (v / 2048) 3 := by
  unfold bitsI
  rw [show (loI 11).toNat = 11 by decide +kernel, show onesI (manyI 11 2) = 3 by decide +kernel]
  rfl
theorem set_11 {v : Int} (hv : U v) : setI v 11 2 0 = bits .andNot .u64 v 6144 := by
  refine (U_set _ _ _ _).ext (U_andNot _ _) fun i hi => ?_
  have h6 := tb_6144 ⟨i, hi⟩
  simp only at h6
  rw [tb_set hv (by unfold U; omega) 11 2 i hi, tb_andNot hv U_lit6144 i hi, h6, show loI 11 = 11 by decide +kernel, show manyI 11 2 = 2 by decide +kernel]
  by_cases e : i = 11 ∨ i = 12
  · rw [if_pos (by omega), decide_eq_true e, Bool.not_true, Bool.and_false]
    exact Nat.zero_testBit _
  · rw [if_neg (by omega), decide_eq_false e, Bool.not_false, Bool.and_true]
theorem and_all {x : Int} (hx : U x) : bits .and .u64 x 18446744073709551615 = x := by
  have ha : ∀ i : Fin 64, tb 18446744073709551615 i.val = true := by decide
  refine (U_and _ _).ext hx fun i hi => ?_
  rw [tb_and hx (by unfold U; omega), ha ⟨i, hi⟩, Bool.and_true]
theorem U_mask (i : Nat) (hi : i < 29) : U (maskI i) := by
  have h : ∀ i : Fin 29, decide (0 ≤ maskI (i.val : Int) ∧ maskI (i.val : Int) < 18446744073709551616) = true := by decide +kernel
  have e := of_decide_eq_true (h ⟨i, hi⟩)
  exact e
end Go.Proofs.YtpfblbleendpiaaDoor
