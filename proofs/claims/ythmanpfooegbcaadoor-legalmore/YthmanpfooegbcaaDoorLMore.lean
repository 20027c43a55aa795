/-
  What statement LegalMore asks: walked for every argument.
-/
import Derived.Test.YthmanpfooegbcaaDoorLReads
import Derived.BigRegion
import Derived.Deep.Cut
namespace Go.Proofs.YthmanpfooegbcaaDoor
open Go.RowKit
theorem more_cl {T : StM} (h : T.Ok) {l : Int} (hl : l = 0 ∨ l = 1 ∨ l = 3) : (setLvl ((setV T false).setC 0 0) l).Cl := by
  refine ⟨⟨h.X, h.pc, ?_, fun j hj => ?_, h.done⟩, hl, fun _ => rfl⟩
  · show I64 l
    unfold I64; omega
  · show U (if j = 0 then 0 else T.C j)
    split
    · unfold U; omega
    · exact h.C j hj
theorem more_facts (T : StM) (n : Int) :
    ((csrC (setLvl ((setV T false).setC 0 0) 0) n false == 0) = true → (csrC (setLvl ((setV T false).setC 0 0) 1) n false == 0) = true) ∧
    ((csrC (setLvl ((setV T false).setC 0 0) 1) n false == 0) = true → (csrC (setLvl ((setV T false).setC 0 0) 3) n false == 0) = true) ∧
    ((csrC (setLvl ((setV T false).setC 0 0) 1) n true == 0) = true → (csrC (setLvl ((setV T false).setC 0 0) 1) n false == 0) = true) ∧
    ((csrC (setLvl ((setV T false).setC 0 0) 3) n false == 0) = true ∨ idxI n < 0) := by
  refine ⟨?_, ?_, csr_less _ _, ?_⟩
  all_goals
    have l0 : lvlI (setLvl ((setV T false).setC 0 0) 0) = 0 := rfl
    have l1 : lvlI (setLvl ((setV T false).setC 0 0) 1) = 1 := rfl
    have l3 : lvlI (setLvl ((setV T false).setC 0 0) 3) = 3 := rfl
    have b0 : bitB ((setLvl ((setV T false).setC 0 0) 1).C 0) 20 = false := by
      show bitB 0 20 = false
      decide +kernel
    unfold csrC
  · rw [l0, l1, b0]
    cases okC n <;> cases (n == 3074) <;> cases (n == 384) <;> rcases who_ways n with h | h | h | h <;> rw [h] <;> simp
  · rw [l1, l3, b0]
    cases okC n <;> cases (n == 3074) <;> cases (n == 384) <;> rcases who_ways n with h | h | h | h <;> rw [h] <;> simp
  · by_cases hi : idxI n < 0
    · exact .inr hi
    · left
      have ho : okC n = true := decide_eq_true (.inl (by omega))
      rw [l3, ho]
      cases (n == 3074) <;> cases (n == 384) <;> rcases who_ways n with h | h | h | h <;> rw [h] <;> simp
set_option maxRecDepth 10000 in
set_option maxHeartbeats 2000000 in
theorem lmore_any (S : StM) (n : Int) (hS : S.Ok) {W : World} (hT : Tab9 W) :
    Calls Tryd.prog 4 #[.agg (rowOf 65 (stF S)), .int .i64 n] W fun e w' => e = .returned (.bool true) ∧ Kept W w' := by
  have h0 := st_new W S
  have k0 : Kept W (W.alloc (.cells (rowOf 65 (stF S)) 26)) := (Only.refl _ W).alloc _
  go_enter Tryd.func4, Tryd.ntmps4
  go_wp2_with fail
  refine (known9_any hT k0).mono ?_
  rintro e w1 ⟨rfl, g1⟩
  have k1 := k0.then g1
  have h1 := h0.kept g1
  go_wp2_with (refine wpList_load_is (by rfl) 26 _ rfl rfl h1 _ Tryd.underlying26 rfl st_size ?_)
  refine (rclean_any S _).mono ?_
  rintro e w2 ⟨rfl, g2⟩
  have hC := cleanM_cl hS
  have k2 := k1.then g2
  generalize cleanM S = T at hC ⊢
  have h3 := st_new w2 T
  have k3 : Kept W (w2.alloc (.cells (rowOf 65 (stF T)) 26)) := k2.alloc _
  have hb : W.heap.size ≤ w2.heap.size := k2.size
  go_upto_region 4 with (first | refine wpList_alloc_is rfl 26 rfl (rowOf 65 zF) st_zero ?_ | (refine wpList_store_is rfl 26 _ _ rfl rfl rfl (row_alloc _ 65 zF _) st_size (fun i _ => stF_one _ i) ?_; rw [World.setRow_alloc_new]))
  try simp only [Act.put, List.setIfInBounds_toArray, List.set_cons_zero, List.set_cons_succ]
  generalize hbb : w2.heap.size = b at hb h3 ⊢
  generalize w2.alloc (.cells (rowOf 65 (stF T)) 26) = w4 at h3 k3 ⊢
  have cv := st_v h3
  have fv := World.rowIs.frozen h3 34
  have hA : StAt (w4.setCell ⟨b, 34, none⟩ (.bool false)) b (setV T false) := (World.rowIs.set h3 34 _).congr fun j _ => by rw [stF_v]
  have cc := hA.c (i := 0) (by omega)
  have fc := World.rowIs.frozen hA 35
  have hB : StAt ((w4.setCell ⟨b, 34, none⟩ (.bool false)).setCell ⟨b, 35, none⟩ (.int .u64 0)) b ((setV T false).setC 0 0) := (World.rowIs.set hA 35 _).congr fun j _ => by rw [stF_setC _ (i := 0) (by omega)]
  have kB : Kept W ((w4.setCell ⟨b, 34, none⟩ (.bool false)).setCell ⟨b, 35, none⟩ (.int .u64 0)) := k3.new (((Only.refl (fun j => j = b) w4).setCell (x := ⟨b, 34, none⟩) rfl _).setCell (x := ⟨b, 35, none⟩) rfl _) (fun j hj => by rw [hj]; exact hb)
  go_upto_region 6 with fail
  generalize (w4.setCell ⟨b, 34, none⟩ (.bool false)).setCell ⟨b, 35, none⟩ (.int .u64 0) = w5 at hB kB ⊢
  generalize hT1 : (setV T false).setC 0 0 = T1 at hB
  clear cv fv hA cc fc h3 k3
  have h5d := hB.kept ((Only.refl _ w5).drew)
  have cl0 : (setLvl T1 0).Cl := by rw [← hT1]; exact more_cl hC.ok (.inl rfl)
  have cl1 : (setLvl T1 1).Cl := by rw [← hT1]; exact more_cl hC.ok (.inr (.inl rfl))
  have cl3 : (setLvl T1 3).Cl := by rw [← hT1]; exact more_cl hC.ok (.inr (.inr rfl))
  have hf := more_facts T n
  rw [hT1] at hf
  refine wp_region_held_drew (S := fun w2' => Kept w5.drew w2') (by kernel_rfl) (Only.refl _ _) (fun hHeld => ?_)
  refine wpAnyH_take (i := 0) (v := .agg (rowOf 65 (stF T1))) rfl (by kernel_rfl) (by kernel_rfl) (by kernel_rfl) (fun _ _ _ h => h) (Or.inl ⟨by rfl, ?_⟩) hHeld ?_
  · intro w2 hSw
    exact exec_load rfl rfl (load_state (h5d.kept hSw))
  simp only [Act.put, List.getElem_toArray, List.getElem_cons_zero, List.setIfInBounds_toArray, List.set_cons_zero, List.set_cons_succ]
  refine wpAnyH_take (i := 1) (v := .agg (rowOf 65 (stF T1))) rfl (by kernel_rfl) (by kernel_rfl) (by kernel_rfl) (fun _ _ _ h => h) (Or.inl ⟨by rfl, ?_⟩) hHeld ?_
  · intro w2 hSw
    exact exec_load rfl rfl (load_state (h5d.kept hSw))
  simp only [Act.put, List.getElem_toArray, List.getElem_cons_zero, List.getElem_cons_succ, List.setIfInBounds_toArray, List.set_cons_zero, List.set_cons_succ]
  refine wpAnyH_ready (rs := [2, 3]) (by kernel_rfl) (by simp) ?_
  refine AllReadyH.cons rfl (fun K hK => ?_) ?_
  · rw [if_pos (by rfl)]
    refine wp_of_exec (exec_alloc rfl st_zero) ?_
    have ru := row_alloc w5.drew 65 zF 26
    have lu : w5.heap.size ≤ w5.drew.heap.size := hHeld.size
    refine hK.out _ _ (hHeld.alloc _) (fun hHeld => ?_)
    clear hK K
    simp only [Act.put, List.setIfInBounds_toArray]
    refine wpAnyH_ready (rs := [3]) (by kernel_rfl) (by simp) ?_
    refine AllReadyH.cons rfl (fun K hK => ?_) AllReadyH.nil
    rw [if_pos (by rfl)]
    refine wp_of_exec (exec_alloc rfl st_zero) ?_
    have rm := row_alloc (w5.drew.alloc (.cells (rowOf 65 zF) 26)) 65 zF 26
    have lm : w5.heap.size ≤ (w5.drew.alloc (.cells (rowOf 65 zF) 26)).heap.size := hHeld.size
    refine hK.out _ _ (hHeld.alloc _) (fun hHeld => ?_)
    clear hK K
    simp only [Act.put]
    have xu := World.rowIs.alloc ru (.cells (rowOf 65 zF) 26)
    have ne : w5.drew.heap.size ≠ (w5.drew.alloc (.cells (rowOf 65 zF) 26)).heap.size := by rw [Go.Deep.nblk_alloc]; omega
    generalize (w5.drew.alloc (.cells (rowOf 65 zF) 26)).alloc (.cells (rowOf 65 zF) 26) = wB at hHeld xu rm ⊢
    generalize (w5.drew.alloc (.cells (rowOf 65 zF) 26)).heap.size = bm at rm lm ne ⊢
    generalize w5.drew.heap.size = bu at xu lu ne ⊢
    refine wpAnyH_ready (rs := [4]) (by kernel_rfl) (by simp) ?_
    refine AllReadyH.cons rfl (fun K hK => ?_) AllReadyH.nil
    rw [if_pos (by rfl)]
    have qu := xu
    refine wp_of_skip (exec_store rfl rfl rfl qu st_size (fun i _ => stF_one _ i)) ?_
    have su := row_stored qu (stF T1)
    have hHu := hHeld.new ((Only.refl (fun j => j = _) _).setRow (g := _) rfl (rowOf 65 (stF T1))) (fun j hj => by rw [hj]; exact lu)
    refine hK.out _ _ hHu (fun hHeld => ?_)
    clear hK K
    simp only [Act.put]
    have y := rm.of_block (setRow_other _ bu bm (rowOf 65 (stF T1)) (Ne.symm ne))
    refine wpAnyH_ready (rs := [5]) (by kernel_rfl) (by simp) ?_
    refine AllReadyH.cons rfl (fun K hK => ?_) AllReadyH.nil
    rw [if_pos (by rfl)]
    have qm := y
    refine wp_of_skip (exec_store rfl rfl rfl qm st_size (fun i _ => stF_one _ i)) ?_
    have sm := row_stored qm (stF T1)
    have hHm := hHeld.new ((Only.refl (fun j => j = _) _).setRow (g := _) rfl (rowOf 65 (stF T1))) (fun j hj => by rw [hj]; exact lm)
    refine hK.out _ _ hHm (fun hHeld => ?_)
    clear hK K
    simp only [Act.put]
    have z := World.rowIs.of_block su (setRow_other _ bm bu (rowOf 65 (stF T1)) ne)
    have nem : bu ≠ bm := ne
    refine wpAnyH_done (by kernel_rfl) ?_ _
    have h6 := h5d.kept hHeld
    have k6 := kB.drew.then hHeld
    have lb := World.rowIs.lt hB
    have nu : bu ≠ b := by omega
    have nm : bm ≠ b := by omega
    have wu : W.heap.size ≤ bu := Nat.le_trans kB.size lu
    have wm : W.heap.size ≤ bm := Nat.le_trans kB.size lm
    generalize (wB.setRow bu (rowOf 65 (stF T1))).setRow bm (rowOf 65 (stF T1)) = w6 at hHeld sm z h6 k6 ⊢
    clear hHeld y su hHu hHm
    have c1 := st_lvl h6
    have f1 := World.rowIs.frozen h6 33
    have t7 : StAt (w6.setCell ⟨b, 33, none⟩ (.int .i64 0)) b (setLvl T1 0) := (World.rowIs.set h6 33 _).congr fun j _ => by rw [stF_lvl]
    have u7 : StAt (w6.setCell ⟨b, 33, none⟩ (.int .i64 0)) bu T1 := World.rowIs.setOther z (a := ⟨b, 33, none⟩) nu _
    have m7 : StAt (w6.setCell ⟨b, 33, none⟩ (.int .i64 0)) bm T1 := World.rowIs.setOther sm (a := ⟨b, 33, none⟩) nm _
    have k7 : Kept W (w6.setCell ⟨b, 33, none⟩ (.int .i64 0)) := k6.new ((Only.refl (fun j => j = b) w6).setCell (x := ⟨b, 33, none⟩) rfl _) (fun j hj => by rw [hj]; exact hb)
    have c2 := st_lvl u7
    have f2 := World.rowIs.frozen u7 33
    have u8 : StAt ((w6.setCell ⟨b, 33, none⟩ (.int .i64 0)).setCell ⟨bu, 33, none⟩ (.int .i64 1)) bu (setLvl T1 1) := (World.rowIs.set u7 33 _).congr fun j _ => by rw [stF_lvl]
    have t8 : StAt ((w6.setCell ⟨b, 33, none⟩ (.int .i64 0)).setCell ⟨bu, 33, none⟩ (.int .i64 1)) b (setLvl T1 0) := World.rowIs.setOther t7 (a := ⟨bu, 33, none⟩) (Ne.symm nu) _
    have m8 : StAt ((w6.setCell ⟨b, 33, none⟩ (.int .i64 0)).setCell ⟨bu, 33, none⟩ (.int .i64 1)) bm T1 := World.rowIs.setOther m7 (a := ⟨bu, 33, none⟩) (Ne.symm nem) _
    have k8 : Kept W ((w6.setCell ⟨b, 33, none⟩ (.int .i64 0)).setCell ⟨bu, 33, none⟩ (.int .i64 1)) := k7.new ((Only.refl (fun j => j = bu) _).setCell (x := ⟨bu, 33, none⟩) rfl _) (fun j hj => by rw [hj]; exact wu)
    have c3 := st_lvl m8
    have f3 := World.rowIs.frozen m8 33
    have m9 : StAt (((w6.setCell ⟨b, 33, none⟩ (.int .i64 0)).setCell ⟨bu, 33, none⟩ (.int .i64 1)).setCell ⟨bm, 33, none⟩ (.int .i64 3)) bm (setLvl T1 3) := (World.rowIs.set m8 33 _).congr fun j _ => by rw [stF_lvl]
    have t9 : StAt (((w6.setCell ⟨b, 33, none⟩ (.int .i64 0)).setCell ⟨bu, 33, none⟩ (.int .i64 1)).setCell ⟨bm, 33, none⟩ (.int .i64 3)) b (setLvl T1 0) := World.rowIs.setOther t8 (a := ⟨bm, 33, none⟩) (Ne.symm nm) _
    have u9 : StAt (((w6.setCell ⟨b, 33, none⟩ (.int .i64 0)).setCell ⟨bu, 33, none⟩ (.int .i64 1)).setCell ⟨bm, 33, none⟩ (.int .i64 3)) bu (setLvl T1 1) := World.rowIs.setOther u8 (a := ⟨bm, 33, none⟩) nem _
    have k9 : Kept W (((w6.setCell ⟨b, 33, none⟩ (.int .i64 0)).setCell ⟨bu, 33, none⟩ (.int .i64 1)).setCell ⟨bm, 33, none⟩ (.int .i64 3)) := k8.new ((Only.refl (fun j => j = bm) _).setCell (x := ⟨bm, 33, none⟩) rfl _) (fun j hj => by rw [hj]; exact wm)
    clear t7 u7 m7 k7 t8 u8 m8 k8 h6 z sm
    go_wp2_with (refine wpList_load_is (by rfl) 26 _ rfl rfl t9 _ Tryd.underlying26 rfl st_size ?_)
    refine (lcsr_any (hT.kept k9) cl0 _ _).mono ?_
    rintro e wa ⟨rfl, ga⟩
    clear c1 c2 c3 f1 f2 f3
    have u10 := u9.kept ga
    have m10 := m9.kept ga
    have k10 := k9.then ga
    go_wp2_with (refine wpList_load_is (by rfl) 26 _ rfl rfl u10 _ Tryd.underlying26 rfl st_size ?_)
    refine (lcsr_any (hT.kept k10) cl1 _ _).mono ?_
    rintro e wb ⟨rfl, gb⟩
    have u11 := u10.kept gb
    have m11 := m10.kept gb
    have k11 := k10.then gb
    go_wp2_with (refine wpList_load_is (by rfl) 26 _ rfl rfl m11 _ Tryd.underlying26 rfl st_size ?_)
    refine (lcsr_any (hT.kept k11) cl3 _ _).mono ?_
    rintro e wc ⟨rfl, gc⟩
    have u12 := u11.kept gc
    have k12 := k11.then gc
    go_wp2_with (refine wpList_load_is (by rfl) 26 _ rfl rfl u12 _ Tryd.underlying26 rfl st_size ?_)
    refine (lcsr_any (hT.kept k12) cl1 _ _).mono ?_
    rintro e wd ⟨rfl, gd⟩
    have k13 := k12.then gd
    clear t9 u9 m9 k9 u10 m10 k10 u11 m11 k11 u12 cl0 cl1 cl3 h5d hB kB
    obtain ⟨q1, q2, q3, q4⟩ := hf
    generalize csrC (setLvl T1 0) n false = cA at q1 ⊢
    generalize csrC (setLvl T1 1) n false = cB at q1 q2 q3 ⊢
    generalize csrC (setLvl T1 3) n false = cC at q2 q4 ⊢
    generalize csrC (setLvl T1 1) n true = cW at q3 ⊢
    generalize (cA == 0) = bA at q1 ⊢
    generalize (cB == 0) = bB at q1 q2 q3 ⊢
    generalize (cC == 0) = bC at q2 q4 ⊢
    generalize (cW == 0) = bW at q3 ⊢
    cases bB
    · obtain rfl : bA = false := by
        cases bA
        · rfl
        · exact absurd (q1 rfl) (by decide)
      obtain rfl : bW = false := by
        cases bW
        · rfl
        · exact absurd (q3 rfl) (by decide)
      cases bC
      · have hix : idxI n < 0 := q4.resolve_left (by decide)
        clear q1 q2 q3 q4
        go_wp2_with fail
        refine (ridx_any n _).mono ?_
        rintro e we ⟨rfl, ge⟩
        go_wp2
        go_ret
        exact ⟨rfl, k13.then ge⟩
      · clear q1 q2 q3 q4
        go_wp2
        go_ret
        exact ⟨rfl, k13⟩
    · obtain rfl : bC = true := q2 rfl
      clear q1 q2 q3 q4
      cases bA <;> cases bW
      all_goals
        go_wp2
        go_ret
        exact ⟨rfl, k13⟩
  refine AllReadyH.cons rfl (fun K hK => ?_) AllReadyH.nil
  rw [if_pos (by rfl)]
  refine wp_of_exec (exec_alloc rfl st_zero) ?_
  have rm := row_alloc w5.drew 65 zF 26
  have lm : w5.heap.size ≤ w5.drew.heap.size := hHeld.size
  refine hK.out _ _ (hHeld.alloc _) (fun hHeld => ?_)
  clear hK K
  simp only [Act.put, List.setIfInBounds_toArray]
  refine wpAnyH_ready (rs := [2]) (by kernel_rfl) (by simp) ?_
  refine AllReadyH.cons rfl (fun K hK => ?_) AllReadyH.nil
  rw [if_pos (by rfl)]
  refine wp_of_exec (exec_alloc rfl st_zero) ?_
  have ru := row_alloc (w5.drew.alloc (.cells (rowOf 65 zF) 26)) 65 zF 26
  have lu : w5.heap.size ≤ (w5.drew.alloc (.cells (rowOf 65 zF) 26)).heap.size := hHeld.size
  refine hK.out _ _ (hHeld.alloc _) (fun hHeld => ?_)
  clear hK K
  simp only [Act.put]
  have xm := World.rowIs.alloc rm (.cells (rowOf 65 zF) 26)
  have ne : w5.drew.heap.size ≠ (w5.drew.alloc (.cells (rowOf 65 zF) 26)).heap.size := by rw [Go.Deep.nblk_alloc]; omega
  generalize (w5.drew.alloc (.cells (rowOf 65 zF) 26)).alloc (.cells (rowOf 65 zF) 26) = wB at hHeld xm ru ⊢
  generalize (w5.drew.alloc (.cells (rowOf 65 zF) 26)).heap.size = bu at ru lu ne ⊢
  generalize w5.drew.heap.size = bm at xm lm ne ⊢
  refine wpAnyH_ready (rs := [4]) (by kernel_rfl) (by simp) ?_
  refine AllReadyH.cons rfl (fun K hK => ?_) AllReadyH.nil
  rw [if_pos (by rfl)]
  have qu := ru
  refine wp_of_skip (exec_store rfl rfl rfl qu st_size (fun i _ => stF_one _ i)) ?_
  have su := row_stored qu (stF T1)
  have hHu := hHeld.new ((Only.refl (fun j => j = _) _).setRow (g := _) rfl (rowOf 65 (stF T1))) (fun j hj => by rw [hj]; exact lu)
  refine hK.out _ _ hHu (fun hHeld => ?_)
  clear hK K
  simp only [Act.put]
  have y := xm.of_block (setRow_other _ bu bm (rowOf 65 (stF T1)) ne)
  refine wpAnyH_ready (rs := [5]) (by kernel_rfl) (by simp) ?_
  refine AllReadyH.cons rfl (fun K hK => ?_) AllReadyH.nil
  rw [if_pos (by rfl)]
  have qm := y
  refine wp_of_skip (exec_store rfl rfl rfl qm st_size (fun i _ => stF_one _ i)) ?_
  have sm := row_stored qm (stF T1)
  have hHm := hHeld.new ((Only.refl (fun j => j = _) _).setRow (g := _) rfl (rowOf 65 (stF T1))) (fun j hj => by rw [hj]; exact lm)
  refine hK.out _ _ hHm (fun hHeld => ?_)
  clear hK K
  simp only [Act.put]
  have z := World.rowIs.of_block su (setRow_other _ bm bu (rowOf 65 (stF T1)) (Ne.symm ne))
  have nem : bu ≠ bm := Ne.symm ne
  refine wpAnyH_done (by kernel_rfl) ?_ _
  have h6 := h5d.kept hHeld
  have k6 := kB.drew.then hHeld
  have lb := World.rowIs.lt hB
  have nu : bu ≠ b := by omega
  have nm : bm ≠ b := by omega
  have wu : W.heap.size ≤ bu := Nat.le_trans kB.size lu
  have wm : W.heap.size ≤ bm := Nat.le_trans kB.size lm
  generalize (wB.setRow bu (rowOf 65 (stF T1))).setRow bm (rowOf 65 (stF T1)) = w6 at hHeld sm z h6 k6 ⊢
  clear hHeld y su hHu hHm
  have c1 := st_lvl h6
  have f1 := World.rowIs.frozen h6 33
  have t7 : StAt (w6.setCell ⟨b, 33, none⟩ (.int .i64 0)) b (setLvl T1 0) := (World.rowIs.set h6 33 _).congr fun j _ => by rw [stF_lvl]
  have u7 : StAt (w6.setCell ⟨b, 33, none⟩ (.int .i64 0)) bu T1 := World.rowIs.setOther z (a := ⟨b, 33, none⟩) nu _
  have m7 : StAt (w6.setCell ⟨b, 33, none⟩ (.int .i64 0)) bm T1 := World.rowIs.setOther sm (a := ⟨b, 33, none⟩) nm _
  have k7 : Kept W (w6.setCell ⟨b, 33, none⟩ (.int .i64 0)) := k6.new ((Only.refl (fun j => j = b) w6).setCell (x := ⟨b, 33, none⟩) rfl _) (fun j hj => by rw [hj]; exact hb)
  have c2 := st_lvl u7
  have f2 := World.rowIs.frozen u7 33
  have u8 : StAt ((w6.setCell ⟨b, 33, none⟩ (.int .i64 0)).setCell ⟨bu, 33, none⟩ (.int .i64 1)) bu (setLvl T1 1) := (World.rowIs.set u7 33 _).congr fun j _ => by rw [stF_lvl]
  have t8 : StAt ((w6.setCell ⟨b, 33, none⟩ (.int .i64 0)).setCell ⟨bu, 33, none⟩ (.int .i64 1)) b (setLvl T1 0) := World.rowIs.setOther t7 (a := ⟨bu, 33, none⟩) (Ne.symm nu) _
  have m8 : StAt ((w6.setCell ⟨b, 33, none⟩ (.int .i64 0)).setCell ⟨bu, 33, none⟩ (.int .i64 1)) bm T1 := World.rowIs.setOther m7 (a := ⟨bu, 33, none⟩) (Ne.symm nem) _
  have k8 : Kept W ((w6.setCell ⟨b, 33, none⟩ (.int .i64 0)).setCell ⟨bu, 33, none⟩ (.int .i64 1)) := k7.new ((Only.refl (fun j => j = bu) _).setCell (x := ⟨bu, 33, none⟩) rfl _) (fun j hj => by rw [hj]; exact wu)
  have c3 := st_lvl m8
  have f3 := World.rowIs.frozen m8 33
  have m9 : StAt (((w6.setCell ⟨b, 33, none⟩ (.int .i64 0)).setCell ⟨bu, 33, none⟩ (.int .i64 1)).setCell ⟨bm, 33, none⟩ (.int .i64 3)) bm (setLvl T1 3) := (World.rowIs.set m8 33 _).congr fun j _ => by rw [stF_lvl]
  have t9 : StAt (((w6.setCell ⟨b, 33, none⟩ (.int .i64 0)).setCell ⟨bu, 33, none⟩ (.int .i64 1)).setCell ⟨bm, 33, none⟩ (.int .i64 3)) b (setLvl T1 0) := World.rowIs.setOther t8 (a := ⟨bm, 33, none⟩) (Ne.symm nm) _
  have u9 : StAt (((w6.setCell ⟨b, 33, none⟩ (.int .i64 0)).setCell ⟨bu, 33, none⟩ (.int .i64 1)).setCell ⟨bm, 33, none⟩ (.int .i64 3)) bu (setLvl T1 1) := World.rowIs.setOther u8 (a := ⟨bm, 33, none⟩) nem _
  have k9 : Kept W (((w6.setCell ⟨b, 33, none⟩ (.int .i64 0)).setCell ⟨bu, 33, none⟩ (.int .i64 1)).setCell ⟨bm, 33, none⟩ (.int .i64 3)) := k8.new ((Only.refl (fun j => j = bm) _).setCell (x := ⟨bm, 33, none⟩) rfl _) (fun j hj => by rw [hj]; exact wm)
  clear t7 u7 m7 k7 t8 u8 m8 k8 h6 z sm
  go_wp2_with (refine wpList_load_is (by rfl) 26 _ rfl rfl t9 _ Tryd.underlying26 rfl st_size ?_)
  refine (lcsr_any (hT.kept k9) cl0 _ _).mono ?_
  rintro e wa ⟨rfl, ga⟩
  clear c1 c2 c3 f1 f2 f3
  have u10 := u9.kept ga
  have m10 := m9.kept ga
  have k10 := k9.then ga
  go_wp2_with (refine wpList_load_is (by rfl) 26 _ rfl rfl u10 _ Tryd.underlying26 rfl st_size ?_)
  refine (lcsr_any (hT.kept k10) cl1 _ _).mono ?_
  rintro e wb ⟨rfl, gb⟩
  have u11 := u10.kept gb
  have m11 := m10.kept gb
  have k11 := k10.then gb
  go_wp2_with (refine wpList_load_is (by rfl) 26 _ rfl rfl m11 _ Tryd.underlying26 rfl st_size ?_)
  refine (lcsr_any (hT.kept k11) cl3 _ _).mono ?_
  rintro e wc ⟨rfl, gc⟩
  have u12 := u11.kept gc
  have k12 := k11.then gc
  go_wp2_with (refine wpList_load_is (by rfl) 26 _ rfl rfl u12 _ Tryd.underlying26 rfl st_size ?_)
  refine (lcsr_any (hT.kept k12) cl1 _ _).mono ?_
  rintro e wd ⟨rfl, gd⟩
  have k13 := k12.then gd
  clear t9 u9 m9 k9 u10 m10 k10 u11 m11 k11 u12 cl0 cl1 cl3 h5d hB kB
  obtain ⟨q1, q2, q3, q4⟩ := hf
  generalize csrC (setLvl T1 0) n false = cA at q1 ⊢
  generalize csrC (setLvl T1 1) n false = cB at q1 q2 q3 ⊢
  generalize csrC (setLvl T1 3) n false = cC at q2 q4 ⊢
  generalize csrC (setLvl T1 1) n true = cW at q3 ⊢
  generalize (cA == 0) = bA at q1 ⊢
  generalize (cB == 0) = bB at q1 q2 q3 ⊢
  generalize (cC == 0) = bC at q2 q4 ⊢
  generalize (cW == 0) = bW at q3 ⊢
  cases bB
  · obtain rfl : bA = false := by
      cases bA
      · rfl
      · exact absurd (q1 rfl) (by decide)
    obtain rfl : bW = false := by
      cases bW
      · rfl
      · exact absurd (q3 rfl) (by decide)
    cases bC
    · have hix : idxI n < 0 := q4.resolve_left (by decide)
      clear q1 q2 q3 q4
      go_wp2_with fail
      refine (ridx_any n _).mono ?_
      rintro e we ⟨rfl, ge⟩
      go_wp2
      go_ret
      exact ⟨rfl, k13.then ge⟩
    · clear q1 q2 q3 q4
      go_wp2
      go_ret
      exact ⟨rfl, k13⟩
  · obtain rfl : bC = true := q2 rfl
    clear q1 q2 q3 q4
    cases bA <;> cases bW
    all_goals
      go_wp2
      go_ret
      exact ⟨rfl, k13⟩
end Go.Proofs.YthmanpfooegbcaaDoor
