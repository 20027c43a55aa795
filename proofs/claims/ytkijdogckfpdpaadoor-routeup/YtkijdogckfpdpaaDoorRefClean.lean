/-
  The state that a machine begins with (Clean of the document's own machine): walked whole, for every state.
-/
import Derived.Test.YtkijdogckfpdpaaDoorRefCsr4
import Derived.BigRegion
import Derived.Deep.Cut
namespace Go.Proofs.YtkijdogckfpdpaaDoor
open Go.RowKit
def lvC (x : Int) : Int := if x = 0 ∨ x = 1 ∨ x = 3 then x else 3
/-- Registers of control below k are within their masks. -/
def maskTo (S : StM) (k : Nat) : StM := ⟨S.X, S.pc, S.lvl, S.v, fun j => if j < k then bits .and .u64 (S.C j) (maskI (j : Int)) else S.C j, S.done⟩
/-- X[0], the level and whether it is a guest's. -/
def cleanA (S : StM) : StM := ⟨fun i => if i = 0 then 0 else S.X i, S.pc, lvC S.lvl, S.v && !(lvC S.lvl == 3), S.C, S.done⟩
def cleanC (S : StM) (j : Nat) : Int := if j = 0 then mppI (bits .and .u64 (S.C 0) (maskI 0)) else bits .and .u64 (S.C j) (maskI (j : Int))
/-- The state that a machine begins with. -/
def cleanM (S : StM) : StM := ⟨fun i => if i = 0 then 0 else S.X i, bits .andNot .u64 S.pc 3, lvC S.lvl, S.v && !(lvC S.lvl == 3), fun j => if j < 29 then cleanC S j else S.C j, S.done⟩
theorem lvC_ways (x : Int) : lvC x = 0 ∨ lvC x = 1 ∨ lvC x = 3 := by
  unfold lvC
  split
  · assumption
  · exact .inr (.inr rfl)
theorem cleanM_ok {S : StM} (h : S.Ok) : (cleanM S).Ok := by
  refine ⟨fun i hi => ?_, U_wrap _, ?_, fun j hj => ?_, h.done⟩
  · show U (if i = 0 then 0 else S.X i)
    split
    · unfold U; omega
    · exact h.X i hi
  · show I64 (lvC S.lvl)
    rcases lvC_ways S.lvl with e | e | e <;> rw [e] <;> unfold I64 <;> omega
  · show U (if j < 29 then cleanC S j else S.C j)
    rw [if_pos hj]
    unfold cleanC
    split
    · exact U_mpp (U_wrap _)
    · exact U_wrap _
/-- A cell of the state that the call holds is another one now. -/
theorem TwoS.put {W w : World} {b r : Nat} {S T : StM} (h : TwoS W w b r S) {i : Nat} (x : Value) (e : ∀ j, stF T j = if j = i then x else stF S j) : TwoS W (w.setCell ⟨b, i, none⟩ x) b r T := by
  obtain ⟨F, hF⟩ := h.room
  exact ⟨(World.rowIs.set h.s i x).congr fun j _ => by rw [e j], ⟨F, hF.setOther (a := ⟨b, i, none⟩) (Ne.symm h.ne) _⟩, h.k.new ((Only.refl (fun j => j = b) w).setCell (x := ⟨b, i, none⟩) rfl _) (fun j hj => by rw [hj]; exact h.hb), h.hb, h.hr, h.ne⟩
theorem results_cell1 {fn : Func} {a : Tmp} {t : TypeId} (h : fn.results = #[.cell a t]) (tmps : Array Value) (P : Program) (w : World) (ad : Addr) (v : Value) (ha : tmps.getD a undef = .pointer (some ad)) (hl : (loadVar t ad).run P w = .ok v w) :
    (results fn tmps).run P w = .ok v w := by
  have ha' : tmps[a]?.getD undef = .pointer (some ad) := by rw [← Array.getD_eq_getD_getElem?]; exact ha
  simp [results, h, ha', asAddr, hl]
theorem maskTo_0 (S : StM) : maskTo S 0 = S := by
  unfold maskTo
  cases S
  congr 1
theorem maskTo_at (S : StM) (k : Nat) : (maskTo S k).C k = S.C k := if_neg (by omega)
theorem maskTo_next (S : StM) (k : Nat) : (maskTo S k).setC k (bits .and .u64 (S.C k) (maskI (k : Int))) = maskTo S (k + 1) := by
  unfold maskTo StM.setC
  congr 1
  funext j
  simp only
  by_cases h : j = k
  · subst h
    rw [if_pos rfl, if_pos (by omega)]
  · rw [if_neg h]
    by_cases h2 : j < k
    · rw [if_pos h2, if_pos (by omega)]
    · rw [if_neg h2, if_neg (by omega)]
def setX0 (S : StM) : StM := ⟨fun i => if i = 0 then 0 else S.X i, S.pc, S.lvl, S.v, S.C, S.done⟩
def setLvl (S : StM) (l : Int) : StM := ⟨S.X, S.pc, l, S.v, S.C, S.done⟩
def setV (S : StM) (v : Bool) : StM := ⟨S.X, S.pc, S.lvl, v, S.C, S.done⟩
def setPc (S : StM) (p : Int) : StM := ⟨S.X, p, S.lvl, S.v, S.C, S.done⟩
theorem stF_X0 (S : StM) (j : Nat) : stF (setX0 S) j = if j = 0 then .int .u64 0 else stF S j := by
  by_cases e : j = 0
  · subst e; rfl
  · rw [if_neg e]
    unfold stF setX0
    by_cases h0 : j < 32
    · rw [if_pos h0, if_pos h0]; simp only; rw [if_neg e]
    · rw [if_neg h0, if_neg h0]
theorem stF_lvl (S : StM) (l : Int) (j : Nat) : stF (setLvl S l) j = if j = 33 then .int .i64 l else stF S j := by
  by_cases e : j = 33
  · subst e; rfl
  · rw [if_neg e]
    unfold stF setLvl
    by_cases h0 : j < 32
    · rw [if_pos h0, if_pos h0]
    · rw [if_neg h0, if_neg h0, if_neg e, if_neg e]
theorem stF_v (S : StM) (v : Bool) (j : Nat) : stF (setV S v) j = if j = 34 then .bool v else stF S j := by
  by_cases e : j = 34
  · subst e; rfl
  · rw [if_neg e]
    unfold stF setV
    by_cases h0 : j < 32
    · rw [if_pos h0, if_pos h0]
    · rw [if_neg h0, if_neg h0, if_neg e, if_neg e]
theorem stF_pc (S : StM) (x : Int) (j : Nat) : stF (setPc S x) j = if j = 32 then .int .u64 x else stF S j := by
  by_cases e : j = 32
  · subst e; rfl
  · rw [if_neg e]
    unfold stF setPc
    by_cases h0 : j < 32
    · rw [if_pos h0, if_pos h0]
    · rw [if_neg h0, if_neg h0, if_neg e, if_neg e]
theorem clean_done (S : StM) : setPc ((maskTo (cleanA S) 29).setC 0 (mppI (bits .and .u64 (S.C 0) (maskI 0)))) (bits .andNot .u64 S.pc 3) = cleanM S := by
  unfold setPc maskTo cleanA cleanM cleanC StM.setC
  congr 1
  funext j
  simp only
  by_cases h : j = 0
  · rw [if_pos h, if_pos (by omega), if_pos h]
  · rw [if_neg h]
    by_cases h2 : j < 29
    · rw [if_pos h2, if_pos h2, if_neg h]
    · rw [if_neg h2, if_neg h2]
theorem cleanA_low {S : StM} (h : S.lvl = 0 ∨ S.lvl = 1) : cleanA S = setX0 S := by
  unfold cleanA setX0 lvC
  rcases h with h | h <;> rw [h] <;> simp
theorem cleanA_three {S : StM} (h : S.lvl = 3) : cleanA S = setV (setX0 S) false := by
  unfold cleanA setX0 lvC setV
  rw [h]; simp
theorem cleanA_other {S : StM} (h : ¬ S.lvl = 0 ∧ ¬ S.lvl = 1 ∧ ¬ S.lvl = 3) : cleanA S = setV (setLvl (setX0 S) 3) false := by
  unfold cleanA setX0 lvC setV setLvl
  rw [if_neg (by rintro (x | x | x); exact h.1 x; exact h.2.1 x; exact h.2.2 x)]; simp
set_option maxRecDepth 10000 in
set_option maxHeartbeats 2000000 in
theorem rclean_any (S : StM) (w : World) :
    Calls Tryd.prog 8 #[.agg (rowOf 65 (stF S))] w fun e w' => e = .returned (.agg (rowOf 65 (stF (cleanM S)))) ∧ Kept w w' := by
  have hT0 := two_new (w := w) (S := S) (rowOf_size 65 zF) (Only.refl _ _)
  go_enter Tryd.func8, Tryd.ntmps8
  go_upto_region 1 with (refine wpList_alloc_is rfl 26 rfl (rowOf 65 zF) st_zero ?_)
  rw [Go.Deep.nblk_alloc]
  generalize (w.alloc (.cells (rowOf 65 (stF S)) 26)).alloc (.cells (rowOf 65 zF) 26) = w0 at hT0 ⊢
  have fz := hT0.s.frozen 0
  have cx : w0.cell? ⟨w.heap.size, 0, none⟩ = some (.int .u64 (S.X 0)) := hT0.s.cell (i := 0) (by omega)
  have hT1 := hT0.put (.int .u64 0) (stF_X0 S)
  have c1 := st_lvl hT1.s
  have cv := st_v hT1.s
  have fv := hT1.s.frozen 34
  have fl := hT1.s.frozen 33
  by_cases hl : S.lvl = 0 ∨ S.lvl = 1
  · have hA : TwoS w (w0.setCell ⟨w.heap.size, 0, none⟩ (.int .u64 0)) w.heap.size (w.heap.size + 1) (cleanA S) := by rw [cleanA_low hl]; exact hT1
    have e1 : (setX0 S).lvl = S.lvl := rfl
    rw [e1] at c1
    rcases hl with hl | hl
    all_goals
      rw [hl] at c1
      rw [← maskTo_0 (cleanA S)] at hA
      go_wp2
      go_loopw [3] (fun i wr => ∃ k : Nat, k ≤ 29 ∧ i = .int .i64 (k : Int) ∧ TwoS w wr w.heap.size (w.heap.size + 1) (maskTo (cleanA S) k)) (fun i _ => 29 - (intOf i).toNat)
      case atStart => exact ⟨0, Nat.zero_le _, rfl, hA⟩
      case round =>
        clear c1 cv cx fv fl fz hT1 hT0
        obtain ⟨k, hk, rfl, hR⟩ := hrel
        by_cases hlt : k < 29
        · have l0 : (0 : Int) ≤ (k : Int) := by omega
          have l1 : (k : Int) < 29 := by omega
          have hc := hR.s.c hlt
          rw [maskTo_at] at hc
          have fz := hR.s.frozen (35 + k)
          have hRd := hR.drew
          go_wp2
          go_region_with (go_at_call 15; refine (rmask_any _ _).mono ?_; rintro e w2 ⟨rfl, k2⟩; have hR2 := hRd.kept k2; have hc2 := hR2.s.c hlt; rw [maskTo_at] at hc2; have fz2 := hR2.s.frozen (35 + k))
          all_goals
            have hR3 := hR2.set hlt (bits .and .u64 ((cleanA S).C k) (maskI (k : Int)))
            rw [maskTo_next] at hR3
            go_wp2
            exact ⟨⟨k + 1, by omega, by go_num, hR3⟩, by simp [intOf]; omega⟩
        · obtain rfl : k = 29 := by omega
          have hc := hR.s.c (i := 0) (by omega)
          have fz := hR.s.frozen (35 + 0)
          have e0 : (maskTo (cleanA S) 29).C 0 = bits .and .u64 (S.C 0) (maskI 0) := rfl
          rw [e0] at hc
          go_wp2_with fail
          refine (rmpp_any (bits .and .u64 (S.C 0) (maskI 0)) (U_wrap _) _).mono ?_
          rintro e w3 ⟨rfl, rfl⟩
          have hR4 := hR.put (i := 35) (T := (maskTo (cleanA S) 29).setC 0 (mppI (bits .and .u64 (S.C 0) (maskI 0)))) _ (fun j => stF_setC _ (i := 0) (by omega) _ j)
          have c4 := st_pc hR4.s
          have e4 : ((maskTo (cleanA S) 29).setC 0 (mppI (bits .and .u64 (S.C 0) (maskI 0)))).pc = S.pc := rfl
          rw [e4] at c4
          have f4 := hR4.s.frozen 32
          have hR5 := hR4.put (.int .u64 (bits .andNot .u64 S.pc 3)) (stF_pc _ _)
          rw [clean_done] at hR5
          obtain ⟨F, hF⟩ := hR5.room
          go_wp2_with first | refine wpList_load_row rfl 26 _ rfl rfl hR5.s _ Tryd.underlying26 rfl st_size ?_ | refine wpList_store_is rfl 26 _ _ rfl rfl rfl hF st_size (fun i _ => stF_one _ i) ?_
          refine bodyPost_ret (results_cell1 rfl _ _ _ _ _ rfl (load_state hR5.out.1)) rfl ?_
          exact ⟨rfl, hR5.out.2⟩
  · by_cases h3 : S.lvl = 3
    · have hA : TwoS w ((w0.setCell ⟨w.heap.size, 0, none⟩ (.int .u64 0)).setCell ⟨w.heap.size, 34, none⟩ (.bool false)) w.heap.size (w.heap.size + 1) (cleanA S) := by rw [cleanA_three h3]; exact hT1.put _ (stF_v _ _)
      have e1 : (setX0 S).lvl = S.lvl := rfl
      rw [e1, h3] at c1
      rw [← maskTo_0 (cleanA S)] at hA
      go_wp2
      go_loopw [3] (fun i wr => ∃ k : Nat, k ≤ 29 ∧ i = .int .i64 (k : Int) ∧ TwoS w wr w.heap.size (w.heap.size + 1) (maskTo (cleanA S) k)) (fun i _ => 29 - (intOf i).toNat)
      case atStart => exact ⟨0, Nat.zero_le _, rfl, hA⟩
      case round =>
        clear c1 cv cx fv fl fz hT1 hT0
        obtain ⟨k, hk, rfl, hR⟩ := hrel
        by_cases hlt : k < 29
        · have l0 : (0 : Int) ≤ (k : Int) := by omega
          have l1 : (k : Int) < 29 := by omega
          have hc := hR.s.c hlt
          rw [maskTo_at] at hc
          have fz := hR.s.frozen (35 + k)
          have hRd := hR.drew
          go_wp2
          go_region_with (go_at_call 15; refine (rmask_any _ _).mono ?_; rintro e w2 ⟨rfl, k2⟩; have hR2 := hRd.kept k2; have hc2 := hR2.s.c hlt; rw [maskTo_at] at hc2; have fz2 := hR2.s.frozen (35 + k))
          all_goals
            have hR3 := hR2.set hlt (bits .and .u64 ((cleanA S).C k) (maskI (k : Int)))
            rw [maskTo_next] at hR3
            go_wp2
            exact ⟨⟨k + 1, by omega, by go_num, hR3⟩, by simp [intOf]; omega⟩
        · obtain rfl : k = 29 := by omega
          have hc := hR.s.c (i := 0) (by omega)
          have fz := hR.s.frozen (35 + 0)
          have e0 : (maskTo (cleanA S) 29).C 0 = bits .and .u64 (S.C 0) (maskI 0) := rfl
          rw [e0] at hc
          go_wp2_with fail
          refine (rmpp_any (bits .and .u64 (S.C 0) (maskI 0)) (U_wrap _) _).mono ?_
          rintro e w3 ⟨rfl, rfl⟩
          have hR4 := hR.put (i := 35) (T := (maskTo (cleanA S) 29).setC 0 (mppI (bits .and .u64 (S.C 0) (maskI 0)))) _ (fun j => stF_setC _ (i := 0) (by omega) _ j)
          have c4 := st_pc hR4.s
          have e4 : ((maskTo (cleanA S) 29).setC 0 (mppI (bits .and .u64 (S.C 0) (maskI 0)))).pc = S.pc := rfl
          rw [e4] at c4
          have f4 := hR4.s.frozen 32
          have hR5 := hR4.put (.int .u64 (bits .andNot .u64 S.pc 3)) (stF_pc _ _)
          rw [clean_done] at hR5
          obtain ⟨F, hF⟩ := hR5.room
          go_wp2_with first | refine wpList_load_row rfl 26 _ rfl rfl hR5.s _ Tryd.underlying26 rfl st_size ?_ | refine wpList_store_is rfl 26 _ _ rfl rfl rfl hF st_size (fun i _ => stF_one _ i) ?_
          refine bodyPost_ret (results_cell1 rfl _ _ _ _ _ rfl (load_state hR5.out.1)) rfl ?_
          exact ⟨rfl, hR5.out.2⟩
    · have hT2 := hT1.put (.int .i64 3) (stF_lvl (setX0 S) 3)
      have hA : TwoS w (((w0.setCell ⟨w.heap.size, 0, none⟩ (.int .u64 0)).setCell ⟨w.heap.size, 33, none⟩ (.int .i64 3)).setCell ⟨w.heap.size, 34, none⟩ (.bool false)) w.heap.size (w.heap.size + 1) (cleanA S) := by rw [cleanA_other ⟨fun h => hl (.inl h), fun h => hl (.inr h), h3⟩]; exact hT2.put _ (stF_v _ _)
      have e1 : (setX0 S).lvl = S.lvl := rfl
      rw [e1] at c1
      obtain ⟨l, hll⟩ : ∃ l, S.lvl = l := ⟨_, rfl⟩
      rw [hll] at c1 hl h3
      clear hll
      have d0 : (l != 0) = true := bne_iff_ne.2 fun h => hl (.inl h)
      have d1 : (l != 1) = true := bne_iff_ne.2 fun h => hl (.inr h)
      have d3 : (l != 3) = true := bne_iff_ne.2 h3
      have c2 : _ = some (Value.int .i64 3) := st_lvl (S := setLvl (setX0 S) 3) hT2.s
      have cv2 := st_v hT2.s
      have fv2 := hT2.s.frozen 34
      rw [← maskTo_0 (cleanA S)] at hA
      go_wp2
      go_loopw [3] (fun i wr => ∃ k : Nat, k ≤ 29 ∧ i = .int .i64 (k : Int) ∧ TwoS w wr w.heap.size (w.heap.size + 1) (maskTo (cleanA S) k)) (fun i _ => 29 - (intOf i).toNat)
      case atStart => exact ⟨0, Nat.zero_le _, rfl, hA⟩
      case round =>
        clear c1 cv cx fv fl fz hT1 hT0 c2 cv2 fv2 d0 d1 d3 hl h3 hT2
        obtain ⟨k, hk, rfl, hR⟩ := hrel
        by_cases hlt : k < 29
        · have l0 : (0 : Int) ≤ (k : Int) := by omega
          have l1 : (k : Int) < 29 := by omega
          have hc := hR.s.c hlt
          rw [maskTo_at] at hc
          have fz := hR.s.frozen (35 + k)
          have hRd := hR.drew
          go_wp2
          go_region_with (go_at_call 15; refine (rmask_any _ _).mono ?_; rintro e w2 ⟨rfl, k2⟩; have hR2 := hRd.kept k2; have hc2 := hR2.s.c hlt; rw [maskTo_at] at hc2; have fz2 := hR2.s.frozen (35 + k))
          all_goals
            have hR3 := hR2.set hlt (bits .and .u64 ((cleanA S).C k) (maskI (k : Int)))
            rw [maskTo_next] at hR3
            go_wp2
            exact ⟨⟨k + 1, by omega, by go_num, hR3⟩, by simp [intOf]; omega⟩
        · obtain rfl : k = 29 := by omega
          have hc := hR.s.c (i := 0) (by omega)
          have fz := hR.s.frozen (35 + 0)
          have e0 : (maskTo (cleanA S) 29).C 0 = bits .and .u64 (S.C 0) (maskI 0) := rfl
          rw [e0] at hc
          go_wp2_with fail
          refine (rmpp_any (bits .and .u64 (S.C 0) (maskI 0)) (U_wrap _) _).mono ?_
          rintro e w3 ⟨rfl, rfl⟩
          have hR4 := hR.put (i := 35) (T := (maskTo (cleanA S) 29).setC 0 (mppI (bits .and .u64 (S.C 0) (maskI 0)))) _ (fun j => stF_setC _ (i := 0) (by omega) _ j)
          have c4 := st_pc hR4.s
          have e4 : ((maskTo (cleanA S) 29).setC 0 (mppI (bits .and .u64 (S.C 0) (maskI 0)))).pc = S.pc := rfl
          rw [e4] at c4
          have f4 := hR4.s.frozen 32
          have hR5 := hR4.put (.int .u64 (bits .andNot .u64 S.pc 3)) (stF_pc _ _)
          rw [clean_done] at hR5
          obtain ⟨F, hF⟩ := hR5.room
          go_wp2_with first | refine wpList_load_row rfl 26 _ rfl rfl hR5.s _ Tryd.underlying26 rfl st_size ?_ | refine wpList_store_is rfl 26 _ _ rfl rfl rfl hF st_size (fun i _ => stF_one _ i) ?_
          refine bodyPost_ret (results_cell1 rfl _ _ _ _ _ rfl (load_state hR5.out.1)) rfl ?_
          exact ⟨rfl, hR5.out.2⟩
end Go.Proofs.YtkijdogckfpdpaaDoor
