/-
  Where a trap may go at all, by the document's words; what bits cleared or set change of that. Plain facts: no call of the program is walked here.
-/
import Derived.Test.YtkijdogckfpdpaaDoorRouDoc
import Derived.Test.YtkijdogckfpdpaaDoorRefClean
namespace Go.Proofs.YtkijdogckfpdpaaDoor
open Go.RowKit
/-- What a state that a machine begins with holds. -/
structure Cln (C : StM) : Prop where
  ok : C.Ok
  lvl : C.lvl = 0 ∨ C.lvl = 1 ∨ C.lvl = 3
  v : C.v = true → C.lvl = 0 ∨ C.lvl = 1
theorem cln_clean {S : StM} (h : S.Ok) : Cln (cleanM S) := by
  refine ⟨cleanM_ok h, lvC_ways S.lvl, fun hv => ?_⟩
  have hv' : (S.v && !(lvC S.lvl == 3)) = true := hv
  have hl : ¬ lvC S.lvl = 3 := by
    intro e
    rw [e] at hv'
    simp at hv'
  show lvC S.lvl = 0 ∨ lvC S.lvl = 1
  rcases lvC_ways S.lvl with e | e | e
  · exact .inl e
  · exact .inr e
  · exact absurd e hl
/-- Who takes an exception. -/
theorem exc_ways {C : StM} (h : Cln C) (c : Int) : (excL C c = 3 ∧ excV C c = false) ∨ (excL C c = 1 ∧ excV C c = false ∧ (C.lvl = 0 ∨ C.lvl = 1)) ∨ (excL C c = 1 ∧ excV C c = true ∧ C.v = true ∧ (C.lvl = 0 ∨ C.lvl = 1)) := by
  unfold excL excV
  cases hd : dwnB C c
  · exact .inl ⟨rfl, rfl⟩
  · have hl : ¬ C.lvl = 3 := by
      intro e
      unfold dwnB at hd
      rw [e] at hd
      simp at hd
    have hl2 : C.lvl = 0 ∨ C.lvl = 1 := by
      rcases h.lvl with e | e | e
      · exact .inl e
      · exact .inr e
      · exact absurd e hl
    cases hv : (C.v && tb (C.C 17) c.toNat)
    · exact .inr (.inl ⟨rfl, by rw [Bool.true_and], hl2⟩)
    · refine .inr (.inr ⟨rfl, by rw [Bool.true_and], ?_, hl2⟩)
      simp only [Bool.and_eq_true] at hv
      exact hv.1
theorem tb_none (k : Nat) : tb 0 k = false := by
  unfold tb
  rw [show (0 : Int).toNat = 0 from rfl, Nat.zero_testBit]
theorem top_zero : ∀ l : List Nat, topI 0 l = -1
  | [] => rfl
  | k :: r => by
    unfold topI
    rw [tb_none, cond_false]
    exact top_zero r
theorem U_544 : U 544 := by unfold U; omega
theorem U_1088 : U 1088 := by unfold U; omega
theorem on_mine {C : StM} (h : C.Ok) {on : Int} (ho : U on) {k : Nat} (hk : k < 64) (hb : tb (mineI C on) k = true) : tb on k = true := by
  unfold mineI at hb
  rw [tb_andNot (U_and _ _) (h.C 2 (by omega)) k hk, tb_and ho U_544] at hb
  simp only [Bool.and_eq_true] at hb
  exact hb.1.1
theorem on_host {C : StM} (h : C.Ok) {on : Int} (ho : U on) {k : Nat} (hk : k < 64) (hb : tb (hostI C on) k = true) : tb on k = true := by
  unfold hostI at hb
  rw [tb_or (U_and _ _) (U_andNot _ _), tb_and (U_and _ _) (h.C 2 (by omega)), tb_and ho U_544, tb_andNot (U_and _ _) (h.C 18 (by omega)) k hk, tb_and ho U_1088] at hb
  simp only [Bool.or_eq_true, Bool.and_eq_true] at hb
  rcases hb with hb | hb
  · exact hb.1.1
  · exact hb.1.1
theorem on_gst {C : StM} (h : C.Ok) {on : Int} (ho : U on) {k : Nat} (hb : tb (gstI C on) k = true) : tb on k = true := by
  unfold gstI at hb
  rw [tb_and (U_and _ _) (h.C 18 (by omega)), tb_and ho U_1088] at hb
  simp only [Bool.and_eq_true] at hb
  exact hb.1.1
theorem tb_ne {x : Int} {k : Nat} (h : tb x k = true) : (x != 0) = true := by
  refine bne_iff_ne.2 fun e => ?_
  rw [e, tb_none] at h
  cases h
/-- What interrupt may come at all. -/
theorem int_ways {C : StM} (h : Cln C) (t l : Bool) :
    intM C t l = ⟨0, 0, false, false⟩ ∨ ((enI C t l != 0) = true ∧ (
      (∃ k, (k = 9223372036854775817 ∨ k = 9223372036854775813) ∧ intM C t l = ⟨k, 3, false, true⟩) ∨
      ((C.lvl = 0 ∨ C.lvl = 1) ∧ ∃ k, (k = 9223372036854775817 ∨ k = 9223372036854775813 ∨ k = 9223372036854775818 ∨ k = 9223372036854775814) ∧ intM C t l = ⟨k, 1, false, true⟩) ∨
      (C.v = true ∧ (C.lvl = 0 ∨ C.lvl = 1) ∧ ∃ k, (k = 9223372036854775817 ∨ k = 9223372036854775813) ∧ intM C t l = ⟨k, 1, true, true⟩))) := by
  have ho : U (enI C t l) := U_and _ _
  unfold intM
  generalize enI C t l = on at *
  have bm := top_bd (mineI C on) [9, 5] (by decide)
  have bh := top_bd (hostI C on) [9, 5, 10, 6] (by decide)
  have bg := top_bd (gstI C on) [10, 6] (by decide)
  by_cases c1 : 0 ≤ topI (mineI C on) [9, 5] ∧ mayM C = true
  · rw [if_pos c1]
    rcases bm with e | ⟨k, hk, hb, e⟩
    · have := c1.1; omega
    · rw [e]
      refine .inr ⟨?_, .inl ?_⟩
      · simp only [List.mem_cons, List.not_mem_nil, or_false] at hk
        exact tb_ne (on_mine h.ok ho (by omega) hb)
      · simp only [List.mem_cons, List.not_mem_nil, or_false] at hk
        rcases hk with rfl | rfl
        · exact ⟨9223372036854775817, .inl rfl, by kernel_rfl⟩
        · exact ⟨9223372036854775813, .inr rfl, by kernel_rfl⟩
  · rw [if_neg c1]
    by_cases c2 : 0 ≤ topI (hostI C on) [9, 5, 10, 6] ∧ mayH C = true
    · rw [if_pos c2]
      have hl : C.lvl = 0 ∨ C.lvl = 1 := by
        have h3 : ¬ C.lvl = 3 := by
          intro e
          have := c2.2
          unfold mayH at this
          rw [e] at this
          simp at this
        rcases h.lvl with e | e | e
        · exact .inl e
        · exact .inr e
        · exact absurd e h3
      rcases bh with e | ⟨k, hk, hb, e⟩
      · have := c2.1; omega
      · rw [e]
        refine .inr ⟨?_, .inr (.inl ⟨hl, ?_⟩)⟩
        · simp only [List.mem_cons, List.not_mem_nil, or_false] at hk
          exact tb_ne (on_host h.ok ho (by omega) hb)
        · simp only [List.mem_cons, List.not_mem_nil, or_false] at hk
          rcases hk with rfl | rfl | rfl | rfl
          · exact ⟨9223372036854775817, .inl rfl, by kernel_rfl⟩
          · exact ⟨9223372036854775813, .inr (.inl rfl), by kernel_rfl⟩
          · exact ⟨9223372036854775818, .inr (.inr (.inl rfl)), by kernel_rfl⟩
          · exact ⟨9223372036854775814, .inr (.inr (.inr rfl)), by kernel_rfl⟩
    · rw [if_neg c2]
      by_cases c3 : 0 ≤ topI (gstI C on) [10, 6] ∧ mayG C = true
      · rw [if_pos c3]
        have hv : C.v = true := by
          have := c3.2
          unfold mayG at this
          simp only [Bool.and_eq_true] at this
          exact this.1
        rcases bg with e | ⟨k, hk, hb, e⟩
        · have := c3.1; omega
        · rw [e]
          refine .inr ⟨tb_ne (on_gst h.ok ho hb), .inr (.inr ⟨hv, h.v hv, ?_⟩)⟩
          simp only [List.mem_cons, List.not_mem_nil, or_false] at hk
          rcases hk with rfl | rfl
          · exact ⟨9223372036854775817, .inl rfl, by kernel_rfl⟩
          · exact ⟨9223372036854775813, .inr rfl, by kernel_rfl⟩
      · rw [if_neg c3]
        exact .inl rfl
/-- Nothing comes where nobody may take it. -/
theorem int_off {C : StM} (t l : Bool) (h1 : topI (mineI C (enI C t l)) [9, 5] = -1 ∨ mayM C = false) (h2 : topI (hostI C (enI C t l)) [9, 5, 10, 6] = -1 ∨ mayH C = false) (h3 : topI (gstI C (enI C t l)) [10, 6] = -1 ∨ mayG C = false) : intM C t l = ⟨0, 0, false, false⟩ := by
  unfold intM
  rw [if_neg, if_neg, if_neg]
  · rintro ⟨a, b⟩
    rcases h3 with e | e
    · omega
    · rw [e] at b; cases b
  · rintro ⟨a, b⟩
    rcases h2 with e | e
    · omega
    · rw [e] at b; cases b
  · rintro ⟨a, b⟩
    rcases h1 with e | e
    · omega
    · rw [e] at b; cases b
theorem and_zero {x : Int} (hx : U x) : bits .and .u64 x 0 = 0 := by
  refine U.ext (U_and _ _) (by unfold U; omega) fun i _ => ?_
  rw [tb_and hx (by unfold U; omega), tb_none, Bool.and_false]
theorem zero_and {x : Int} (hx : U x) : bits .and .u64 0 x = 0 := by
  refine U.ext (U_and _ _) (by unfold U; omega) fun i _ => ?_
  rw [tb_and (by unfold U; omega) hx, tb_none, Bool.false_and]
theorem U_pen {C : StM} (h : C.Ok) (t l : Bool) : U (penI C t l) := by
  unfold penI
  cases t <;> cases l
  · exact h.C 19 (by omega)
  · exact U_or _ _
  · exact U_or _ _
  · exact U_or _ _
/-- With nothing enabled nothing comes. -/
theorem quiet_mie {C : StM} (h : C.Ok) (t l : Bool) : intM (C.setC 3 0) t l = ⟨0, 0, false, false⟩ := by
  have h' : (C.setC 3 0).Ok := h.setC 3 (by unfold U; omega)
  have he : enI (C.setC 3 0) t l = 0 := by
    unfold enI
    rw [StM.setC_at]
    exact and_zero (U_pen h' t l)
  have z544 : bits .and .u64 0 544 = 0 := zero_and U_544
  have z1088 : bits .and .u64 0 1088 = 0 := zero_and U_1088
  have hn : ∀ x, U x → bits .andNot .u64 0 x = 0 := fun x hx => by
    refine U.ext (U_andNot _ _) (by unfold U; omega) fun i hi => ?_
    rw [tb_andNot (by unfold U; omega) hx i hi, tb_none, Bool.false_and]
  have hm : mineI (C.setC 3 0) 0 = 0 := by unfold mineI; rw [z544]; exact hn _ (h'.C 2 (by omega))
  have hg : gstI (C.setC 3 0) 0 = 0 := by unfold gstI; rw [z1088]; exact zero_and (h'.C 18 (by omega))
  have hh : hostI (C.setC 3 0) 0 = 0 := by
    unfold hostI
    rw [z544, z1088, zero_and (h'.C 2 (by omega)), hn _ (h'.C 18 (by omega))]
    kernel_rfl
  refine int_off t l (.inl ?_) (.inl ?_) (.inl ?_)
  · rw [he, hm]; exact top_zero _
  · rw [he, hh]; exact top_zero _
  · rw [he, hg]; exact top_zero _
theorem tb_cut {x : Int} (hx : U x) (k : Nat) (m : Int) (hm : U m) (hk : k < 64) (hb : tb m k = true) : tb (bits .andNot .u64 x m) k = false := by
  rw [tb_andNot hx hm k hk, hb]
  exact Bool.and_false _
/-- The machine without MIE isn't interrupted. -/
theorem quiet_m {C : StM} (h : C.Ok) (t l : Bool) : intM ((setV (setLvl C 3) false).setC 0 (bits .andNot .u64 (C.C 0) 8)) t l = ⟨0, 0, false, false⟩ := by
  have hb : tb (bits .andNot .u64 (C.C 0) 8) 3 = false := tb_cut (h.C 0 (by omega)) 3 8 (by unfold U; omega) (by omega) (by kernel_rfl)
  refine int_off t l (.inr ?_) (.inr ?_) (.inr ?_)
  · unfold mayM
    rw [StM.setC_at, hb]
    rfl
  · rfl
  · rfl
/-- Nor the host's supervisor without SIE, where all goes to it. -/
theorem quiet_h {C : StM} (h : C.Ok) (t l : Bool) : intM (((setV (setLvl C 1) false).setC 0 (bits .andNot .u64 (C.C 0) 2)).setC 2 544) t l = ⟨0, 0, false, false⟩ := by
  have hb : tb (bits .andNot .u64 (C.C 0) 2) 1 = false := tb_cut (h.C 0 (by omega)) 1 2 (by unfold U; omega) (by omega) (by kernel_rfl)
  refine int_off t l (.inl ?_) (.inr ?_) (.inr ?_)
  · have ho : U (enI (((setV (setLvl C 1) false).setC 0 (bits .andNot .u64 (C.C 0) 2)).setC 2 544) t l) := U_and _ _
    generalize enI (((setV (setLvl C 1) false).setC 0 (bits .andNot .u64 (C.C 0) 2)).setC 2 544) t l = on at *
    have hm : mineI (((setV (setLvl C 1) false).setC 0 (bits .andNot .u64 (C.C 0) 2)).setC 2 544) on = 0 := by
      unfold mineI
      rw [StM.setC_at]
      refine U.ext (U_andNot _ _) (by unfold U; omega) fun i hi => ?_
      rw [tb_andNot (U_and _ _) U_544 i hi, tb_and ho U_544, tb_none]
      cases tb 544 i
      · rw [Bool.and_false, Bool.false_and]
      · rw [Bool.not_true, Bool.and_false]
    rw [hm]
    exact top_zero _
  · have e0 : (((setV (setLvl C 1) false).setC 0 (bits .andNot .u64 (C.C 0) 2)).setC 2 544).C 0 = bits .andNot .u64 (C.C 0) 2 := by
      rw [StM.setC_other _ _ (by omega), StM.setC_at]
    unfold mayH
    rw [e0, hb]
    rfl
  · rfl
end Go.Proofs.YtkijdogckfpdpaaDoor
