/-
  What statement LegalPlain asks: walked for every argument.
-/
import Derived.Test.YthmanpfooegbcaaDoorLKnown
namespace Go.Proofs.YthmanpfooegbcaaDoor
open Go.RowKit
theorem ins_plain {S : StM} {op rd rs1 rs2 imm csr : Int} (hi : isB op rd rs1 rs2 imm csr = true) (hc : clsI op < 9) : insC S op rd rs1 rs2 imm csr = 0 := by
  have hn : ∀ x, clsI x < 9 → x ≠ 60 ∧ x ≠ 61 ∧ x ≠ 62 ∧ x ≠ 63 := by
    intro x hx
    refine ⟨?_, ?_, ?_, ?_⟩ <;> rintro rfl <;> revert hx <;> decide
  obtain ⟨a, b, c, d⟩ := hn op hc
  unfold insC
  rw [hi, beq_eq_false_iff_ne.2 (show clsI op ≠ 9 by omega), beq_eq_false_iff_ne.2 a, beq_eq_false_iff_ne.2 b, beq_eq_false_iff_ne.2 d, beq_eq_false_iff_ne.2 c, beq_eq_false_iff_ne.2 (show clsI op ≠ 11 by omega), beq_eq_false_iff_ne.2 (show clsI op ≠ 12 by omega)]
  rfl
set_option maxRecDepth 10000 in
set_option maxHeartbeats 2000000 in
theorem lplain_any (S : StM) (op rd rs1 rs2 imm csr : Int) (hS : S.Ok) {W : World} (hT : Tab9 W) :
    Calls Tryd.prog 6 #[.agg (rowOf 65 (stF S)), .agg #[.int .i64 op, .int .i64 rd, .int .i64 rs1, .int .i64 rs2, .int .i64 imm, .int .i64 csr]] W fun e w' => e = .returned (.bool true) ∧ Kept W w' := by
  obtain ⟨h0, i0, k0⟩ := two_boxes W S op rd rs1 rs2 imm csr
  have hz := fun (T : StM) (hi : isB op rd rs1 rs2 imm csr = true) (hc : clsI op < 9) => ins_plain (S := T) hi hc
  by_cases hc : 9 ≤ clsI op
  all_goals
    cases hi : isB op rd rs1 rs2 imm csr
  all_goals
    go_enter Tryd.func6, Tryd.ntmps6
    go_wp2_with fail
    refine (known9_any hT k0).mono ?_
    rintro e w1 ⟨rfl, g1⟩
    have k1 := k0.then g1
    have h1 := h0.kept g1
    have i1 := i0.kept g1
    obtain ⟨c0, c1, c2, c3, c4, c5⟩ := i0.kept g1
    go_wp2_with fail
    refine (rclass_any _ _).mono ?_
    rintro e w' ⟨rfl, rfl⟩
    go_wp2_with fail
    refine (ris_any _ _ _ _ _ _ _).mono ?_
    rintro e w2 ⟨rfl, g2⟩
    rw [hi]
    have k2 := k1.then (Only.of_grown g2)
    have h2 := h1.kept (Only.of_grown g2)
    have i2 := i1.kept (Only.of_grown g2)
    clear c0 c1 c2 c3 c4 c5
    obtain ⟨c0, c1, c2, c3, c4, c5⟩ := i1.kept (Only.of_grown g2)
  · go_wp2
    go_ret
    exact ⟨rfl, k2⟩
  · go_wp2
    go_ret
    exact ⟨rfl, k2⟩
  · go_wp2
    go_ret
    exact ⟨rfl, k2⟩
  · have hlt : clsI op < 9 := by omega
    have hC := cleanM_cl hS
    have hr := hz (cleanM S) hi hlt
    have k2d := k2.drew
    have h2d := h2.kept ((Only.refl _ w2).drew)
    have i2d := i2.kept ((Only.refl _ w2).drew)
    clear c0 c1 c2 c3 c4 c5
    go_wp2_with fail
    refine wp_region_held_drew (S := fun w2' => Kept w2.drew w2') (by kernel_rfl) (Only.refl _ _) (fun hHeld => ?_)
    refine wpAnyH_take (i := 0) (v := .agg (rowOf 65 (stF S))) rfl (by kernel_rfl) (by kernel_rfl) (by kernel_rfl) (fun _ _ _ h => h) (Or.inl ⟨by rfl, ?_⟩) hHeld ?_
    · intro w2 hSw
      exact exec_load rfl rfl (load_state (h2d.kept hSw))
    simp only [Act.put, List.getElem_toArray, List.getElem_cons_zero, List.setIfInBounds_toArray, List.set_cons_zero, List.set_cons_succ]
    refine wpAnyH_take (i := 2) (v := ?_) rfl (by kernel_rfl) (by kernel_rfl) (by kernel_rfl) (fun _ _ _ h => h) (Or.inl ⟨by rfl, ?_⟩) hHeld ?_
    rotate_left
    · intro w2 hSw
      obtain ⟨c0, c1, c2, c3, c4, c5⟩ := i2d.kept hSw
      go_simp
      all_goals rfl
    simp only [Act.put, List.getElem_toArray, List.getElem_cons_zero, List.getElem_cons_succ, List.setIfInBounds_toArray, List.set_cons_zero, List.set_cons_succ]
    refine wpAnyH_ready (rs := [1]) (by kernel_rfl) (by simp) ?_
    refine AllReadyH.cons rfl (fun K hK => ?_) AllReadyH.nil
    go_simp
    refine (rclean_any S _).mono ?_
    rintro e wn ⟨rfl, kn⟩
    go_simp
    refine hK.out _ _ (hHeld.then kn) (fun hHeld => ?_)
    clear hK K
    try simp only [Act.put, List.setIfInBounds_toArray, List.set_cons_zero, List.set_cons_succ]
    refine wpAnyH_ready (rs := [3]) (by kernel_rfl) (by simp) ?_
    refine AllReadyH.cons rfl (fun K hK => ?_) AllReadyH.nil
    go_simp
    refine (linsn_any (hT.kept (k2d.then hHeld)) hC _ _ _ _ _ _).mono ?_
    rintro e wn ⟨rfl, kn⟩
    rw [hr]
    go_simp
    refine hK.out _ _ (hHeld.then kn) (fun hHeld => ?_)
    clear hK K
    try simp only [Act.put, List.setIfInBounds_toArray, List.set_cons_zero, List.set_cons_succ]
    refine wpAnyH_take (i := 4) (v := ?_) rfl (by kernel_rfl) (by kernel_rfl) (by kernel_rfl) (fun _ _ _ h => h) (Or.inl ⟨by rfl, ?_⟩) hHeld ?_
    rotate_left
    · intro w2 hSw
      go_simp
      all_goals rfl
    simp only [Act.put, List.getElem_toArray, List.getElem_cons_zero, List.getElem_cons_succ, List.setIfInBounds_toArray, List.set_cons_zero, List.set_cons_succ]
    refine wpAnyH_take (i := 5) (v := ?_) rfl (by kernel_rfl) (by kernel_rfl) (by kernel_rfl) (fun _ _ _ h => h) (Or.inl ⟨by rfl, ?_⟩) hHeld ?_
    rotate_left
    · intro w2 hSw
      go_simp
      all_goals rfl
    simp only [Act.put, List.getElem_toArray, List.getElem_cons_zero, List.getElem_cons_succ, List.setIfInBounds_toArray, List.set_cons_zero, List.set_cons_succ]
    refine wpAnyH_take (i := 6) (v := ?_) rfl (by kernel_rfl) (by kernel_rfl) (by kernel_rfl) (fun _ _ _ h => h) (Or.inl ⟨by rfl, ?_⟩) hHeld ?_
    rotate_left
    · intro w2 hSw
      go_simp
      all_goals rfl
    simp only [Act.put, List.getElem_toArray, List.getElem_cons_zero, List.getElem_cons_succ, List.setIfInBounds_toArray, List.set_cons_zero, List.set_cons_succ]
    refine wpAnyH_take (i := 7) (v := ?_) rfl (by kernel_rfl) (by kernel_rfl) (by kernel_rfl) (fun _ _ _ h => h) (Or.inl ⟨by rfl, ?_⟩) hHeld ?_
    rotate_left
    · intro w2 hSw
      go_simp
      all_goals rfl
    simp only [Act.put, List.getElem_toArray, List.getElem_cons_zero, List.getElem_cons_succ, List.setIfInBounds_toArray, List.set_cons_zero, List.set_cons_succ]
    refine wpAnyH_take (i := 8) (v := ?_) rfl (by kernel_rfl) (by kernel_rfl) (by kernel_rfl) (fun _ _ _ h => h) (Or.inl ⟨by rfl, ?_⟩) hHeld ?_
    rotate_left
    · intro w2 hSw
      go_simp
      all_goals rfl
    simp only [Act.put, List.getElem_toArray, List.getElem_cons_zero, List.getElem_cons_succ, List.setIfInBounds_toArray, List.set_cons_zero, List.set_cons_succ]
    refine wpAnyH_done (by kernel_rfl) ?_ _
    go_wp2
    go_ret
    exact ⟨rfl, k2d.then hHeld⟩
end Go.Proofs.YthmanpfooegbcaaDoor
