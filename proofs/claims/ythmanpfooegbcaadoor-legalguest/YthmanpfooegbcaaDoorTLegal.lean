/-
  What package legal's Csr and Insn answer: walked whole, for every argument, where the listed tables' cells stand.
-/
import Derived.Test.YthmanpfooegbcaaDoorTLeg
import Derived.Test.YthmanpfooegbcaaDoorRefLeg4
import Derived.Test.YthmanpfooegbcaaDoorIsIn
namespace Go.Proofs.YthmanpfooegbcaaDoor
open Go.RowKit
section
variable {S : StM} {w : World}
set_option maxRecDepth 10000 in
set_option maxHeartbeats 1000000 in
theorem lcsr_none (hT : Tab9 w) (hS : S.Ok) (n : Int) (wr : Bool) (ho : okC n = false) :
    Calls Tryd.prog 10 #[.agg (rowOf 65 (stF S)), .int .i64 n, .bool wr] w fun e w' => e = .returned (.tuple #[.int .u64 2, .bool false]) ∧ Kept w w' := by
  have h1 := st_new w S
  have k0 : Kept w (w.alloc (.cells (rowOf 65 (stF S)) 26)) := (Only.refl _ w).alloc _
  go_enter Tryd.func10, Tryd.ntmps10
  go_wp2_with (refine wpList_load_is (by rfl) 26 _ rfl rfl h1 _ Tryd.underlying26 rfl st_size ?_)
  refine (cread_c (hT.kept k0).c hS n).mono ?_
  rintro e w1 ⟨rfl, k1⟩
  have h2 := h1.kept k1
  rw [ho]
  go_wp2
  go_ret2
  exact ⟨rfl, k0.then k1⟩
set_option maxRecDepth 10000 in
set_option maxHeartbeats 1000000 in
theorem lcsr_high (hT : Tab9 w) (hS : S.Ok) (n : Int) (wr : Bool) (ho : okC n = true) (hw : wr = true) (hn : 3072 ≤ n) :
    Calls Tryd.prog 10 #[.agg (rowOf 65 (stF S)), .int .i64 n, .bool wr] w fun e w' => e = .returned (.tuple #[.int .u64 2, .bool false]) ∧ Kept w w' := by
  have h1 := st_new w S
  have k0 : Kept w (w.alloc (.cells (rowOf 65 (stF S)) 26)) := (Only.refl _ w).alloc _
  subst hw
  go_enter Tryd.func10, Tryd.ntmps10
  go_wp2_with (refine wpList_load_is (by rfl) 26 _ rfl rfl h1 _ Tryd.underlying26 rfl st_size ?_)
  refine (cread_c (hT.kept k0).c hS n).mono ?_
  rintro e w1 ⟨rfl, k1⟩
  have h2 := h1.kept k1
  rw [ho]
  go_wp2
  go_ret2
  exact ⟨rfl, k0.then k1⟩
set_option maxRecDepth 10000 in
set_option maxHeartbeats 1000000 in
theorem lcsr_ans (hT : Tab9 w) (hS : S.Ok) (n : Int) (wr : Bool) (o t c : Int) (ho : okC n = true) (hw : wr = false ∨ (wr = true ∧ n < 3072)) (hn : ∀ w0, Tab9 w0 → Calls Tryd.prog 23 #[.int .i64 n] w0 fun e w' => e = .returned (.agg #[.int .i64 o, .int .u64 t]) ∧ Kept w0 w') (ha : ∀ w0, Tab9 w0 → Calls Tryd.prog 24 #[.agg #[.int .i64 o, .int .u64 t], .agg (rowOf 65 (stF S))] w0 fun e w' => e = .returned (.tuple #[.int .u64 c, .bool (c == 0)]) ∧ Kept w0 w') :
    Calls Tryd.prog 10 #[.agg (rowOf 65 (stF S)), .int .i64 n, .bool wr] w fun e w' => e = .returned (.tuple #[.int .u64 c, .bool (c == 0)]) ∧ Kept w w' := by
  have h1 := st_new w S
  have k0 : Kept w (w.alloc (.cells (rowOf 65 (stF S)) 26)) := (Only.refl _ w).alloc _
  go_enter Tryd.func10, Tryd.ntmps10
  go_wp2_with (refine wpList_load_is (by rfl) 26 _ rfl rfl h1 _ Tryd.underlying26 rfl st_size ?_)
  refine (cread_c (hT.kept k0).c hS n).mono ?_
  rintro e w1 ⟨rfl, k1⟩
  have h2 := h1.kept k1
  rw [ho]
  have k2 := (k0.then k1).drew
  have h2d := h2.kept ((Only.refl _ w1).drew)
  have hTd := hT.kept k2
  rcases hw with hw | ⟨hw, hlt⟩
  all_goals
    subst hw
    go_wp2
    refine wp_region_held_drew (S := fun w2' => Kept w1.drew w2') (by kernel_rfl) (Only.refl _ _) (fun hHeld => ?_)
    refine wpAnyH_take (i := 0) (v := ?_) rfl (by kernel_rfl) (by kernel_rfl) (by kernel_rfl) (fun _ _ _ h => h) (Or.inl ⟨by rfl, ?_⟩) hHeld ?_
    rotate_left
    · intro w2 hSw
      go_simp
      all_goals rfl
    simp only [Act.put, List.getElem_toArray, List.getElem_cons_zero, List.setIfInBounds_toArray, List.set_cons_zero, List.set_cons_succ]
    refine wpAnyH_take (i := 2) (v := .agg (rowOf 65 (stF S))) rfl (by kernel_rfl) (by kernel_rfl) (by kernel_rfl) (fun _ _ _ h => h) (Or.inl ⟨by rfl, ?_⟩) hHeld ?_
    · intro w2 hSw
      exact exec_load rfl rfl (load_state (h2d.kept hSw))
    simp only [Act.put, List.getElem_toArray, List.getElem_cons_zero, List.getElem_cons_succ, List.setIfInBounds_toArray, List.set_cons_zero, List.set_cons_succ]
    refine wpAnyH_ready (rs := [1]) (by kernel_rfl) (by simp) ?_
    refine AllReadyH.cons rfl (fun K hK => ?_) AllReadyH.nil
    go_simp
    refine (hn _ (hTd.kept hHeld)).mono ?_
    rintro e wn ⟨rfl, kn⟩
    go_simp
    refine hK.out _ _ (hHeld.then kn) (fun hHeld => ?_)
    clear hK K
    try simp only [Act.put, List.setIfInBounds_toArray, List.set_cons_zero, List.set_cons_succ]
    refine wpAnyH_ready (rs := [3]) (by kernel_rfl) (by simp) ?_
    refine AllReadyH.cons rfl (fun K hK => ?_) AllReadyH.nil
    go_simp
    refine (ha _ (hTd.kept hHeld)).mono ?_
    rintro e wn ⟨rfl, kn⟩
    go_simp
    refine hK.out _ _ (hHeld.then kn) (fun hHeld => ?_)
    clear hK K
    try simp only [Act.put, List.setIfInBounds_toArray, List.set_cons_zero, List.set_cons_succ]
    refine wpAnyH_take (i := 4) (v := ?_) rfl (by kernel_rfl) (by kernel_rfl) (by kernel_rfl) (fun _ _ _ h => h) (Or.inl ⟨by rfl, ?_⟩) hHeld ?_
    rotate_left
    · intro w2 hSw
      go_simp
      all_goals rfl
    simp only [Act.put, List.getElem_toArray, List.getElem_cons_zero, List.getElem_cons_succ, List.setIfInBounds_toArray, List.set_cons_zero, List.set_cons_succ]
    refine wpAnyH_take (i := 5) (v := ?_) rfl (by kernel_rfl) (by kernel_rfl) (by kernel_rfl) (fun _ _ _ h => h) (Or.inl ⟨by rfl, ?_⟩) hHeld ?_
    rotate_left
    · intro w2 hSw
      go_simp
      all_goals rfl
    simp only [Act.put, List.getElem_toArray, List.getElem_cons_zero, List.getElem_cons_succ, List.setIfInBounds_toArray, List.set_cons_zero, List.set_cons_succ]
    refine wpAnyH_take (i := 6) (v := ?_) rfl (by kernel_rfl) (by kernel_rfl) (by kernel_rfl) (fun _ _ _ h => h) (Or.inl ⟨by rfl, ?_⟩) hHeld ?_
    rotate_left
    · intro w2 hSw
      go_simp
      all_goals rfl
    simp only [Act.put, List.getElem_toArray, List.getElem_cons_zero, List.getElem_cons_succ, List.setIfInBounds_toArray, List.set_cons_zero, List.set_cons_succ]
    refine wpAnyH_take (i := 7) (v := ?_) rfl (by kernel_rfl) (by kernel_rfl) (by kernel_rfl) (fun _ _ _ h => h) (Or.inl ⟨by rfl, ?_⟩) hHeld ?_
    rotate_left
    · intro w2 hSw
      go_simp
      all_goals rfl
    simp only [Act.put, List.getElem_toArray, List.getElem_cons_zero, List.getElem_cons_succ, List.setIfInBounds_toArray, List.set_cons_zero, List.set_cons_succ]
    refine wpAnyH_done (by kernel_rfl) ?_ _
    go_wp2
    go_ret2
    exact ⟨rfl, k2.then hHeld⟩
set_option maxRecDepth 10000 in
set_option maxHeartbeats 1000000 in
theorem linsn_none (hT : Tab9 w) (op rd rs1 rs2 imm csr : Int) (hi : isB op rd rs1 rs2 imm csr = false) :
    Calls Tryd.prog 12 #[.agg (rowOf 65 (stF S)), .agg #[.int .i64 op, .int .i64 rd, .int .i64 rs1, .int .i64 rs2, .int .i64 imm, .int .i64 csr]] w fun e w' => e = .returned (.tuple #[.int .u64 2, .bool false]) ∧ Kept w w' := by
  obtain ⟨h1, i1, k1⟩ := two_boxes w S op rd rs1 rs2 imm csr
  go_enter Tryd.func12, Tryd.ntmps12
  go_wp2_with fail
  refine (is_in _ _ _ _ _ _ _ (hT.kept k1).i).mono ?_
  rintro e w1 ⟨rfl, g1⟩
  have k2 : Kept w w1 := k1.then (Only.of_grown g1)
  have h2 := h1.kept (Only.of_grown g1)
  have i2 := i1.grown g1
  rw [hi]
  go_wp2
  go_ret2
  exact ⟨rfl, k2⟩
set_option maxRecDepth 10000 in
set_option maxHeartbeats 1000000 in
theorem linsn_csr (hT : Tab9 w) (op rd rs1 rs2 imm csr : Int) (c : Int) (hi : isB op rd rs1 rs2 imm csr = true) (hc : clsI op = 9) (hr : ∀ w0, Tab9 w0 → Calls Tryd.prog 10 #[.agg (rowOf 65 (stF S)), .int .i64 csr, .bool (wrB op rs1 imm)] w0 fun e w' => e = .returned (.tuple #[.int .u64 c, .bool (c == 0)]) ∧ Kept w0 w') :
    Calls Tryd.prog 12 #[.agg (rowOf 65 (stF S)), .agg #[.int .i64 op, .int .i64 rd, .int .i64 rs1, .int .i64 rs2, .int .i64 imm, .int .i64 csr]] w fun e w' => e = .returned (.tuple #[.int .u64 c, .bool (c == 0)]) ∧ Kept w w' := by
  obtain ⟨h1, i1, k1⟩ := two_boxes w S op rd rs1 rs2 imm csr
  go_enter Tryd.func12, Tryd.ntmps12
  go_wp2_with fail
  refine (is_in _ _ _ _ _ _ _ (hT.kept k1).i).mono ?_
  rintro e w1 ⟨rfl, g1⟩
  have k2 : Kept w w1 := k1.then (Only.of_grown g1)
  have h2 := h1.kept (Only.of_grown g1)
  have i2 := i1.grown g1
  rw [hi]
  obtain ⟨c0, c1, c2, c3, c4, c5⟩ := i2
  go_wp2_with fail
  refine (class_in _ _ (hT.kept k2).i).mono ?_
  rintro e w2 ⟨rfl, g2⟩
  have q2 : Kept w1 w2 := Only.of_grown g2
  have k3 : Kept w w2 := k2.then q2
  have h3 := h2.kept q2
  have i3 := (Six.mk c0 c1 c2 c3 c4 c5).kept q2
  clear c0 c1 c2 c3 c4 c5
  rw [hc]
  go_wp2
  have k3d := k3.drew
  have h3d := h3.kept ((Only.refl _ w2).drew)
  have i3d := i3.kept ((Only.refl _ w2).drew)
  have hTd := hT.kept k3d
  refine wp_region_held_drew (S := fun w2' => Kept w2.drew w2') (by kernel_rfl) (Only.refl _ _) (fun hHeld => ?_)
  refine wpAnyH_take (i := 0) (v := .agg (rowOf 65 (stF S))) rfl (by kernel_rfl) (by kernel_rfl) (by kernel_rfl) (fun _ _ _ h => h) (Or.inl ⟨by rfl, ?_⟩) hHeld ?_
  · intro w2 hSw
    exact exec_load rfl rfl (load_state (h3d.kept hSw))
  simp only [Act.put, List.getElem_toArray, List.getElem_cons_zero, List.setIfInBounds_toArray, List.set_cons_zero, List.set_cons_succ]
  refine wpAnyH_take (i := 1) (v := ?_) rfl (by kernel_rfl) (by kernel_rfl) (by kernel_rfl) (fun _ _ _ h => h) (Or.inl ⟨by rfl, ?_⟩) hHeld ?_
  rotate_left
  · intro w2 hSw
    go_simp
    all_goals rfl
  simp only [Act.put, List.getElem_toArray, List.getElem_cons_zero, List.getElem_cons_succ, List.setIfInBounds_toArray, List.set_cons_zero, List.set_cons_succ]
  refine wpAnyH_take (i := 2) (v := ?_) rfl (by kernel_rfl) (by kernel_rfl) (by kernel_rfl) (fun _ _ _ h => h) (Or.inl ⟨by rfl, ?_⟩) hHeld ?_
  rotate_left
  · intro w2 hSw
    obtain ⟨c0, c1, c2, c3, c4, c5⟩ := i3d.kept hSw
    go_simp
    all_goals rfl
  simp only [Act.put, List.getElem_toArray, List.getElem_cons_zero, List.getElem_cons_succ, List.setIfInBounds_toArray, List.set_cons_zero, List.set_cons_succ]
  refine wpAnyH_take (i := 3) (v := ?_) rfl (by kernel_rfl) (by kernel_rfl) (by kernel_rfl) (fun _ _ _ h => h) (Or.inl ⟨by rfl, ?_⟩) hHeld ?_
  rotate_left
  · intro w2 hSw
    obtain ⟨c0, c1, c2, c3, c4, c5⟩ := i3d.kept hSw
    go_simp
    all_goals rfl
  simp only [Act.put, List.getElem_toArray, List.getElem_cons_zero, List.getElem_cons_succ, List.setIfInBounds_toArray, List.set_cons_zero, List.set_cons_succ]
  refine wpAnyH_ready (rs := [4]) (by kernel_rfl) (by simp) ?_
  refine AllReadyH.cons rfl (fun K hK => ?_) AllReadyH.nil
  go_simp
  refine (writes_any _ _ _ _ _ _ _).mono ?_
  rintro e wn ⟨rfl, kn⟩
  go_simp
  refine hK.out _ _ (hHeld.then kn) (fun hHeld => ?_)
  clear hK K
  try simp only [Act.put, List.setIfInBounds_toArray, List.set_cons_zero, List.set_cons_succ]
  refine wpAnyH_ready (rs := [5]) (by kernel_rfl) (by simp) ?_
  refine AllReadyH.cons rfl (fun K hK => ?_) AllReadyH.nil
  go_simp
  refine (hr _ (hTd.kept hHeld)).mono ?_
  rintro e wn ⟨rfl, kn⟩
  go_simp
  refine hK.out _ _ (hHeld.then kn) (fun hHeld => ?_)
  clear hK K
  try simp only [Act.put, List.setIfInBounds_toArray, List.set_cons_zero, List.set_cons_succ]
  refine wpAnyH_take (i := 6) (v := ?_) rfl (by kernel_rfl) (by kernel_rfl) (by kernel_rfl) (fun _ _ _ h => h) (Or.inl ⟨by rfl, ?_⟩) hHeld ?_
  rotate_left
  · intro w2 hSw
    go_simp
    all_goals rfl
  simp only [Act.put, List.getElem_toArray, List.getElem_cons_zero, List.getElem_cons_succ, List.setIfInBounds_toArray, List.set_cons_zero, List.set_cons_succ]
  refine wpAnyH_take (i := 7) (v := ?_) rfl (by kernel_rfl) (by kernel_rfl) (by kernel_rfl) (fun _ _ _ h => h) (Or.inl ⟨by rfl, ?_⟩) hHeld ?_
  rotate_left
  · intro w2 hSw
    go_simp
    all_goals rfl
  simp only [Act.put, List.getElem_toArray, List.getElem_cons_zero, List.getElem_cons_succ, List.setIfInBounds_toArray, List.set_cons_zero, List.set_cons_succ]
  refine wpAnyH_take (i := 8) (v := ?_) rfl (by kernel_rfl) (by kernel_rfl) (by kernel_rfl) (fun _ _ _ h => h) (Or.inl ⟨by rfl, ?_⟩) hHeld ?_
  rotate_left
  · intro w2 hSw
    go_simp
    all_goals rfl
  simp only [Act.put, List.getElem_toArray, List.getElem_cons_zero, List.getElem_cons_succ, List.setIfInBounds_toArray, List.set_cons_zero, List.set_cons_succ]
  refine wpAnyH_take (i := 9) (v := ?_) rfl (by kernel_rfl) (by kernel_rfl) (by kernel_rfl) (fun _ _ _ h => h) (Or.inl ⟨by rfl, ?_⟩) hHeld ?_
  rotate_left
  · intro w2 hSw
    go_simp
    all_goals rfl
  simp only [Act.put, List.getElem_toArray, List.getElem_cons_zero, List.getElem_cons_succ, List.setIfInBounds_toArray, List.set_cons_zero, List.set_cons_succ]
  refine wpAnyH_done (by kernel_rfl) ?_ _
  go_wp2
  go_ret2
  exact ⟨rfl, k3d.then hHeld⟩
set_option maxRecDepth 10000 in
set_option maxHeartbeats 1000000 in
theorem linsn_lent (hT : Tab9 w) (hS : S.Ok) (op rd rs1 rs2 imm csr : Int) (hi : isB op rd rs1 rs2 imm csr = true) (hc : clsI op = 12) (hb : lentB S = true) :
    Calls Tryd.prog 12 #[.agg (rowOf 65 (stF S)), .agg #[.int .i64 op, .int .i64 rd, .int .i64 rs1, .int .i64 rs2, .int .i64 imm, .int .i64 csr]] w fun e w' => e = .returned (.tuple #[.int .u64 0, .bool true]) ∧ Kept w w' := by
  obtain ⟨h1, i1, k1⟩ := two_boxes w S op rd rs1 rs2 imm csr
  go_enter Tryd.func12, Tryd.ntmps12
  go_wp2_with fail
  refine (is_in _ _ _ _ _ _ _ (hT.kept k1).i).mono ?_
  rintro e w1 ⟨rfl, g1⟩
  have k2 : Kept w w1 := k1.then (Only.of_grown g1)
  have h2 := h1.kept (Only.of_grown g1)
  have i2 := i1.grown g1
  rw [hi]
  obtain ⟨c0, c1, c2, c3, c4, c5⟩ := i2
  go_wp2_with fail
  refine (class_in _ _ (hT.kept k2).i).mono ?_
  rintro e w2 ⟨rfl, g2⟩
  have q2 : Kept w1 w2 := Only.of_grown g2
  have k3 : Kept w w2 := k2.then q2
  have h3 := h2.kept q2
  have i3 := (Six.mk c0 c1 c2 c3 c4 c5).kept q2
  clear c0 c1 c2 c3 c4 c5
  rw [hc]
  go_wp2_with (refine wpList_load_is (by rfl) 26 _ rfl rfl h3 _ Tryd.underlying26 rfl st_size ?_)
  refine (lent_any hS _).mono ?_
  rintro e w3 ⟨rfl, k4⟩
  rw [hb]
  go_wp2
  go_ret2
  exact ⟨rfl, k3.then k4⟩
set_option maxRecDepth 10000 in
set_option maxHeartbeats 1000000 in
theorem linsn_wait (hT : Tab9 w) (hS : S.Ok) (op rd rs1 rs2 imm csr : Int) (hi : isB op rd rs1 rs2 imm csr = true) (hc : clsI op = 10) (d62 : (op == 62) = true) (hb : waitB S = true) :
    Calls Tryd.prog 12 #[.agg (rowOf 65 (stF S)), .agg #[.int .i64 op, .int .i64 rd, .int .i64 rs1, .int .i64 rs2, .int .i64 imm, .int .i64 csr]] w fun e w' => e = .returned (.tuple #[.int .u64 2, .bool false]) ∧ Kept w w' := by
  obtain ⟨h1, i1, k1⟩ := two_boxes w S op rd rs1 rs2 imm csr
  go_enter Tryd.func12, Tryd.ntmps12
  go_wp2_with fail
  refine (is_in _ _ _ _ _ _ _ (hT.kept k1).i).mono ?_
  rintro e w1 ⟨rfl, g1⟩
  have k2 : Kept w w1 := k1.then (Only.of_grown g1)
  have h2 := h1.kept (Only.of_grown g1)
  have i2 := i1.grown g1
  rw [hi]
  obtain ⟨c0, c1, c2, c3, c4, c5⟩ := i2
  go_wp2_with fail
  refine (class_in _ _ (hT.kept k2).i).mono ?_
  rintro e w2 ⟨rfl, g2⟩
  have q2 : Kept w1 w2 := Only.of_grown g2
  have k3 : Kept w w2 := k2.then q2
  have h3 := h2.kept q2
  have i3 := (Six.mk c0 c1 c2 c3 c4 c5).kept q2
  clear c0 c1 c2 c3 c4 c5
  rw [hc]
  obtain ⟨c0, c1, c2, c3, c4, c5⟩ := i3
  go_wp2_with (refine wpList_load_is (by rfl) 26 _ rfl rfl h3 _ Tryd.underlying26 rfl st_size ?_)
  refine (wait_any hS _).mono ?_
  rintro e w3 ⟨rfl, k4⟩
  rw [hb]
  go_wp2
  go_ret2
  exact ⟨rfl, k3.then k4⟩
set_option maxRecDepth 10000 in
set_option maxHeartbeats 1000000 in
theorem linsn_ans (hT : Tab9 w) (op rd rs1 rs2 imm csr : Int) (o t c : Int) (hn : ∀ w0, Tab9 w0 → Calls Tryd.prog 33 #[.int .i64 op] w0 fun e w' => e = .returned (.agg #[.int .i64 o, .int .u64 t]) ∧ Kept w0 w') (ha : ∀ w0, Tab9 w0 → Calls Tryd.prog 24 #[.agg #[.int .i64 o, .int .u64 t], .agg (rowOf 65 (stF S))] w0 fun e w' => e = .returned (.tuple #[.int .u64 c, .bool (c == 0)]) ∧ Kept w0 w') (hi : isB op rd rs1 rs2 imm csr = true) (d9 : (clsI op == 9) = false) (d12 : (clsI op == 12) = false) (d62 : (op == 62) = false) :
    Calls Tryd.prog 12 #[.agg (rowOf 65 (stF S)), .agg #[.int .i64 op, .int .i64 rd, .int .i64 rs1, .int .i64 rs2, .int .i64 imm, .int .i64 csr]] w fun e w' => e = .returned (.tuple #[.int .u64 c, .bool (c == 0)]) ∧ Kept w w' := by
  obtain ⟨h1, i1, k1⟩ := two_boxes w S op rd rs1 rs2 imm csr
  go_enter Tryd.func12, Tryd.ntmps12
  go_wp2_with fail
  refine (is_in _ _ _ _ _ _ _ (hT.kept k1).i).mono ?_
  rintro e w1 ⟨rfl, g1⟩
  have k2 : Kept w w1 := k1.then (Only.of_grown g1)
  have h2 := h1.kept (Only.of_grown g1)
  have i2 := i1.grown g1
  rw [hi]
  obtain ⟨c0, c1, c2, c3, c4, c5⟩ := i2
  go_wp2_with fail
  refine (class_in _ _ (hT.kept k2).i).mono ?_
  rintro e w2 ⟨rfl, g2⟩
  have q2 : Kept w1 w2 := Only.of_grown g2
  have k3 : Kept w w2 := k2.then q2
  have h3 := h2.kept q2
  have i3 := (Six.mk c0 c1 c2 c3 c4 c5).kept q2
  clear c0 c1 c2 c3 c4 c5
  have h4 := h3
  have i4 := i3
  obtain ⟨c0, c1, c2, c3, c4, c5⟩ := i3
  go_wp2_with fail
  clear c0 c1 c2 c3 c4 c5
  have k3d := k3.drew
  have h3d := h4.kept ((Only.refl _ w2).drew)
  have i3d := i4.kept ((Only.refl _ w2).drew)
  have hTd := hT.kept k3d
  refine wp_region_held_drew (S := fun w2' => Kept w2.drew w2') (by kernel_rfl) (Only.refl _ _) (fun hHeld => ?_)
  refine wpAnyH_take (i := 0) (v := ?_) rfl (by kernel_rfl) (by kernel_rfl) (by kernel_rfl) (fun _ _ _ h => h) (Or.inl ⟨by rfl, ?_⟩) hHeld ?_
  rotate_left
  · intro w2 hSw
    go_simp
    all_goals rfl
  simp only [Act.put, List.getElem_toArray, List.getElem_cons_zero, List.setIfInBounds_toArray, List.set_cons_zero, List.set_cons_succ]
  refine wpAnyH_take (i := 1) (v := ?_) rfl (by kernel_rfl) (by kernel_rfl) (by kernel_rfl) (fun _ _ _ h => h) (Or.inl ⟨by rfl, ?_⟩) hHeld ?_
  rotate_left
  · intro w2 hSw
    obtain ⟨c0, c1, c2, c3, c4, c5⟩ := i3d.kept hSw
    go_simp
    all_goals rfl
  simp only [Act.put, List.getElem_toArray, List.getElem_cons_zero, List.getElem_cons_succ, List.setIfInBounds_toArray, List.set_cons_zero, List.set_cons_succ]
  refine wpAnyH_take (i := 3) (v := .agg (rowOf 65 (stF S))) rfl (by kernel_rfl) (by kernel_rfl) (by kernel_rfl) (fun _ _ _ h => h) (Or.inl ⟨by rfl, ?_⟩) hHeld ?_
  · intro w2 hSw
    exact exec_load rfl rfl (load_state (h3d.kept hSw))
  simp only [Act.put, List.getElem_toArray, List.getElem_cons_zero, List.getElem_cons_succ, List.setIfInBounds_toArray, List.set_cons_zero, List.set_cons_succ]
  refine wpAnyH_ready (rs := [2]) (by kernel_rfl) (by simp) ?_
  refine AllReadyH.cons rfl (fun K hK => ?_) AllReadyH.nil
  go_simp
  refine (hn _ (hTd.kept hHeld)).mono ?_
  rintro e wn ⟨rfl, kn⟩
  go_simp
  refine hK.out _ _ (hHeld.then kn) (fun hHeld => ?_)
  clear hK K
  try simp only [Act.put, List.setIfInBounds_toArray, List.set_cons_zero, List.set_cons_succ]
  refine wpAnyH_ready (rs := [4]) (by kernel_rfl) (by simp) ?_
  refine AllReadyH.cons rfl (fun K hK => ?_) AllReadyH.nil
  go_simp
  refine (ha _ (hTd.kept hHeld)).mono ?_
  rintro e wn ⟨rfl, kn⟩
  go_simp
  refine hK.out _ _ (hHeld.then kn) (fun hHeld => ?_)
  clear hK K
  try simp only [Act.put, List.setIfInBounds_toArray, List.set_cons_zero, List.set_cons_succ]
  refine wpAnyH_take (i := 5) (v := ?_) rfl (by kernel_rfl) (by kernel_rfl) (by kernel_rfl) (fun _ _ _ h => h) (Or.inl ⟨by rfl, ?_⟩) hHeld ?_
  rotate_left
  · intro w2 hSw
    go_simp
    all_goals rfl
  simp only [Act.put, List.getElem_toArray, List.getElem_cons_zero, List.getElem_cons_succ, List.setIfInBounds_toArray, List.set_cons_zero, List.set_cons_succ]
  refine wpAnyH_take (i := 6) (v := ?_) rfl (by kernel_rfl) (by kernel_rfl) (by kernel_rfl) (fun _ _ _ h => h) (Or.inl ⟨by rfl, ?_⟩) hHeld ?_
  rotate_left
  · intro w2 hSw
    go_simp
    all_goals rfl
  simp only [Act.put, List.getElem_toArray, List.getElem_cons_zero, List.getElem_cons_succ, List.setIfInBounds_toArray, List.set_cons_zero, List.set_cons_succ]
  refine wpAnyH_take (i := 7) (v := ?_) rfl (by kernel_rfl) (by kernel_rfl) (by kernel_rfl) (fun _ _ _ h => h) (Or.inl ⟨by rfl, ?_⟩) hHeld ?_
  rotate_left
  · intro w2 hSw
    go_simp
    all_goals rfl
  simp only [Act.put, List.getElem_toArray, List.getElem_cons_zero, List.getElem_cons_succ, List.setIfInBounds_toArray, List.set_cons_zero, List.set_cons_succ]
  refine wpAnyH_take (i := 8) (v := ?_) rfl (by kernel_rfl) (by kernel_rfl) (by kernel_rfl) (fun _ _ _ h => h) (Or.inl ⟨by rfl, ?_⟩) hHeld ?_
  rotate_left
  · intro w2 hSw
    go_simp
    all_goals rfl
  simp only [Act.put, List.getElem_toArray, List.getElem_cons_zero, List.getElem_cons_succ, List.setIfInBounds_toArray, List.set_cons_zero, List.set_cons_succ]
  refine wpAnyH_done (by kernel_rfl) ?_ _
  go_wp2
  go_ret2
  exact ⟨rfl, k3d.then hHeld⟩
set_option maxRecDepth 10000 in
set_option maxHeartbeats 1000000 in
theorem linsn_ans12 (hT : Tab9 w) (hS : S.Ok) (op rd rs1 rs2 imm csr : Int) (o t c : Int) (hn : ∀ w0, Tab9 w0 → Calls Tryd.prog 33 #[.int .i64 op] w0 fun e w' => e = .returned (.agg #[.int .i64 o, .int .u64 t]) ∧ Kept w0 w') (ha : ∀ w0, Tab9 w0 → Calls Tryd.prog 24 #[.agg #[.int .i64 o, .int .u64 t], .agg (rowOf 65 (stF S))] w0 fun e w' => e = .returned (.tuple #[.int .u64 c, .bool (c == 0)]) ∧ Kept w0 w') (hi : isB op rd rs1 rs2 imm csr = true) (hc : clsI op = 12) (d62 : (op == 62) = false) (hb : lentB S = false) :
    Calls Tryd.prog 12 #[.agg (rowOf 65 (stF S)), .agg #[.int .i64 op, .int .i64 rd, .int .i64 rs1, .int .i64 rs2, .int .i64 imm, .int .i64 csr]] w fun e w' => e = .returned (.tuple #[.int .u64 c, .bool (c == 0)]) ∧ Kept w w' := by
  obtain ⟨h1, i1, k1⟩ := two_boxes w S op rd rs1 rs2 imm csr
  go_enter Tryd.func12, Tryd.ntmps12
  go_wp2_with fail
  refine (is_in _ _ _ _ _ _ _ (hT.kept k1).i).mono ?_
  rintro e w1 ⟨rfl, g1⟩
  have k2 : Kept w w1 := k1.then (Only.of_grown g1)
  have h2 := h1.kept (Only.of_grown g1)
  have i2 := i1.grown g1
  rw [hi]
  obtain ⟨c0, c1, c2, c3, c4, c5⟩ := i2
  go_wp2_with fail
  refine (class_in _ _ (hT.kept k2).i).mono ?_
  rintro e w2 ⟨rfl, g2⟩
  have q2 : Kept w1 w2 := Only.of_grown g2
  have k3 : Kept w w2 := k2.then q2
  have h3 := h2.kept q2
  have i3 := (Six.mk c0 c1 c2 c3 c4 c5).kept q2
  clear c0 c1 c2 c3 c4 c5
  rw [hc]
  go_wp2_with (refine wpList_load_is (by rfl) 26 _ rfl rfl h3 _ Tryd.underlying26 rfl st_size ?_)
  refine (lent_any hS _).mono ?_
  rintro e w3 ⟨rfl, k4⟩
  rw [hb]
  have k5 := k3.then k4
  have h4 := h3.kept k4
  have i4 := i3.kept k4
  obtain ⟨c0, c1, c2, c3, c4, c5⟩ := i3.kept k4
  go_wp2_with fail
  clear c0 c1 c2 c3 c4 c5
  have k3d := k5.drew
  have h3d := h4.kept ((Only.refl _ w3).drew)
  have i3d := i4.kept ((Only.refl _ w3).drew)
  have hTd := hT.kept k3d
  refine wp_region_held_drew (S := fun w2' => Kept w3.drew w2') (by kernel_rfl) (Only.refl _ _) (fun hHeld => ?_)
  refine wpAnyH_take (i := 0) (v := ?_) rfl (by kernel_rfl) (by kernel_rfl) (by kernel_rfl) (fun _ _ _ h => h) (Or.inl ⟨by rfl, ?_⟩) hHeld ?_
  rotate_left
  · intro w2 hSw
    go_simp
    all_goals rfl
  simp only [Act.put, List.getElem_toArray, List.getElem_cons_zero, List.setIfInBounds_toArray, List.set_cons_zero, List.set_cons_succ]
  refine wpAnyH_take (i := 1) (v := ?_) rfl (by kernel_rfl) (by kernel_rfl) (by kernel_rfl) (fun _ _ _ h => h) (Or.inl ⟨by rfl, ?_⟩) hHeld ?_
  rotate_left
  · intro w2 hSw
    obtain ⟨c0, c1, c2, c3, c4, c5⟩ := i3d.kept hSw
    go_simp
    all_goals rfl
  simp only [Act.put, List.getElem_toArray, List.getElem_cons_zero, List.getElem_cons_succ, List.setIfInBounds_toArray, List.set_cons_zero, List.set_cons_succ]
  refine wpAnyH_take (i := 3) (v := .agg (rowOf 65 (stF S))) rfl (by kernel_rfl) (by kernel_rfl) (by kernel_rfl) (fun _ _ _ h => h) (Or.inl ⟨by rfl, ?_⟩) hHeld ?_
  · intro w2 hSw
    exact exec_load rfl rfl (load_state (h3d.kept hSw))
  simp only [Act.put, List.getElem_toArray, List.getElem_cons_zero, List.getElem_cons_succ, List.setIfInBounds_toArray, List.set_cons_zero, List.set_cons_succ]
  refine wpAnyH_ready (rs := [2]) (by kernel_rfl) (by simp) ?_
  refine AllReadyH.cons rfl (fun K hK => ?_) AllReadyH.nil
  go_simp
  refine (hn _ (hTd.kept hHeld)).mono ?_
  rintro e wn ⟨rfl, kn⟩
  go_simp
  refine hK.out _ _ (hHeld.then kn) (fun hHeld => ?_)
  clear hK K
  try simp only [Act.put, List.setIfInBounds_toArray, List.set_cons_zero, List.set_cons_succ]
  refine wpAnyH_ready (rs := [4]) (by kernel_rfl) (by simp) ?_
  refine AllReadyH.cons rfl (fun K hK => ?_) AllReadyH.nil
  go_simp
  refine (ha _ (hTd.kept hHeld)).mono ?_
  rintro e wn ⟨rfl, kn⟩
  go_simp
  refine hK.out _ _ (hHeld.then kn) (fun hHeld => ?_)
  clear hK K
  try simp only [Act.put, List.setIfInBounds_toArray, List.set_cons_zero, List.set_cons_succ]
  refine wpAnyH_take (i := 5) (v := ?_) rfl (by kernel_rfl) (by kernel_rfl) (by kernel_rfl) (fun _ _ _ h => h) (Or.inl ⟨by rfl, ?_⟩) hHeld ?_
  rotate_left
  · intro w2 hSw
    go_simp
    all_goals rfl
  simp only [Act.put, List.getElem_toArray, List.getElem_cons_zero, List.getElem_cons_succ, List.setIfInBounds_toArray, List.set_cons_zero, List.set_cons_succ]
  refine wpAnyH_take (i := 6) (v := ?_) rfl (by kernel_rfl) (by kernel_rfl) (by kernel_rfl) (fun _ _ _ h => h) (Or.inl ⟨by rfl, ?_⟩) hHeld ?_
  rotate_left
  · intro w2 hSw
    go_simp
    all_goals rfl
  simp only [Act.put, List.getElem_toArray, List.getElem_cons_zero, List.getElem_cons_succ, List.setIfInBounds_toArray, List.set_cons_zero, List.set_cons_succ]
  refine wpAnyH_take (i := 7) (v := ?_) rfl (by kernel_rfl) (by kernel_rfl) (by kernel_rfl) (fun _ _ _ h => h) (Or.inl ⟨by rfl, ?_⟩) hHeld ?_
  rotate_left
  · intro w2 hSw
    go_simp
    all_goals rfl
  simp only [Act.put, List.getElem_toArray, List.getElem_cons_zero, List.getElem_cons_succ, List.setIfInBounds_toArray, List.set_cons_zero, List.set_cons_succ]
  refine wpAnyH_take (i := 8) (v := ?_) rfl (by kernel_rfl) (by kernel_rfl) (by kernel_rfl) (fun _ _ _ h => h) (Or.inl ⟨by rfl, ?_⟩) hHeld ?_
  rotate_left
  · intro w2 hSw
    go_simp
    all_goals rfl
  simp only [Act.put, List.getElem_toArray, List.getElem_cons_zero, List.getElem_cons_succ, List.setIfInBounds_toArray, List.set_cons_zero, List.set_cons_succ]
  refine wpAnyH_done (by kernel_rfl) ?_ _
  go_wp2
  go_ret2
  exact ⟨rfl, k3d.then hHeld⟩
set_option maxRecDepth 10000 in
set_option maxHeartbeats 1000000 in
theorem linsn_ans62 (hT : Tab9 w) (hS : S.Ok) (op rd rs1 rs2 imm csr : Int) (o t c : Int) (hn : ∀ w0, Tab9 w0 → Calls Tryd.prog 33 #[.int .i64 op] w0 fun e w' => e = .returned (.agg #[.int .i64 o, .int .u64 t]) ∧ Kept w0 w') (ha : ∀ w0, Tab9 w0 → Calls Tryd.prog 24 #[.agg #[.int .i64 o, .int .u64 t], .agg (rowOf 65 (stF S))] w0 fun e w' => e = .returned (.tuple #[.int .u64 c, .bool (c == 0)]) ∧ Kept w0 w') (hi : isB op rd rs1 rs2 imm csr = true) (hc : clsI op = 10) (d62 : (op == 62) = true) (hb : waitB S = false) :
    Calls Tryd.prog 12 #[.agg (rowOf 65 (stF S)), .agg #[.int .i64 op, .int .i64 rd, .int .i64 rs1, .int .i64 rs2, .int .i64 imm, .int .i64 csr]] w fun e w' => e = .returned (.tuple #[.int .u64 c, .bool (c == 0)]) ∧ Kept w w' := by
  obtain ⟨h1, i1, k1⟩ := two_boxes w S op rd rs1 rs2 imm csr
  go_enter Tryd.func12, Tryd.ntmps12
  go_wp2_with fail
  refine (is_in _ _ _ _ _ _ _ (hT.kept k1).i).mono ?_
  rintro e w1 ⟨rfl, g1⟩
  have k2 : Kept w w1 := k1.then (Only.of_grown g1)
  have h2 := h1.kept (Only.of_grown g1)
  have i2 := i1.grown g1
  rw [hi]
  obtain ⟨c0, c1, c2, c3, c4, c5⟩ := i2
  go_wp2_with fail
  refine (class_in _ _ (hT.kept k2).i).mono ?_
  rintro e w2 ⟨rfl, g2⟩
  have q2 : Kept w1 w2 := Only.of_grown g2
  have k3 : Kept w w2 := k2.then q2
  have h3 := h2.kept q2
  have i3 := (Six.mk c0 c1 c2 c3 c4 c5).kept q2
  clear c0 c1 c2 c3 c4 c5
  rw [hc]
  have i3b := i3
  obtain ⟨c0, c1, c2, c3, c4, c5⟩ := i3b
  go_wp2_with (refine wpList_load_is (by rfl) 26 _ rfl rfl h3 _ Tryd.underlying26 rfl st_size ?_)
  refine (wait_any hS _).mono ?_
  rintro e w3 ⟨rfl, k4⟩
  rw [hb]
  clear c0 c1 c2 c3 c4 c5
  have k5 := k3.then k4
  have h4 := h3.kept k4
  have i4 := i3.kept k4
  go_wp2
  have k3d := k5.drew
  have h3d := h4.kept ((Only.refl _ w3).drew)
  have i3d := i4.kept ((Only.refl _ w3).drew)
  have hTd := hT.kept k3d
  refine wp_region_held_drew (S := fun w2' => Kept w3.drew w2') (by kernel_rfl) (Only.refl _ _) (fun hHeld => ?_)
  refine wpAnyH_take (i := 0) (v := ?_) rfl (by kernel_rfl) (by kernel_rfl) (by kernel_rfl) (fun _ _ _ h => h) (Or.inl ⟨by rfl, ?_⟩) hHeld ?_
  rotate_left
  · intro w2 hSw
    go_simp
    all_goals rfl
  simp only [Act.put, List.getElem_toArray, List.getElem_cons_zero, List.setIfInBounds_toArray, List.set_cons_zero, List.set_cons_succ]
  refine wpAnyH_take (i := 1) (v := ?_) rfl (by kernel_rfl) (by kernel_rfl) (by kernel_rfl) (fun _ _ _ h => h) (Or.inl ⟨by rfl, ?_⟩) hHeld ?_
  rotate_left
  · intro w2 hSw
    obtain ⟨c0, c1, c2, c3, c4, c5⟩ := i3d.kept hSw
    go_simp
    all_goals rfl
  simp only [Act.put, List.getElem_toArray, List.getElem_cons_zero, List.getElem_cons_succ, List.setIfInBounds_toArray, List.set_cons_zero, List.set_cons_succ]
  refine wpAnyH_take (i := 3) (v := .agg (rowOf 65 (stF S))) rfl (by kernel_rfl) (by kernel_rfl) (by kernel_rfl) (fun _ _ _ h => h) (Or.inl ⟨by rfl, ?_⟩) hHeld ?_
  · intro w2 hSw
    exact exec_load rfl rfl (load_state (h3d.kept hSw))
  simp only [Act.put, List.getElem_toArray, List.getElem_cons_zero, List.getElem_cons_succ, List.setIfInBounds_toArray, List.set_cons_zero, List.set_cons_succ]
  refine wpAnyH_ready (rs := [2]) (by kernel_rfl) (by simp) ?_
  refine AllReadyH.cons rfl (fun K hK => ?_) AllReadyH.nil
  go_simp
  refine (hn _ (hTd.kept hHeld)).mono ?_
  rintro e wn ⟨rfl, kn⟩
  go_simp
  refine hK.out _ _ (hHeld.then kn) (fun hHeld => ?_)
  clear hK K
  try simp only [Act.put, List.setIfInBounds_toArray, List.set_cons_zero, List.set_cons_succ]
  refine wpAnyH_ready (rs := [4]) (by kernel_rfl) (by simp) ?_
  refine AllReadyH.cons rfl (fun K hK => ?_) AllReadyH.nil
  go_simp
  refine (ha _ (hTd.kept hHeld)).mono ?_
  rintro e wn ⟨rfl, kn⟩
  go_simp
  refine hK.out _ _ (hHeld.then kn) (fun hHeld => ?_)
  clear hK K
  try simp only [Act.put, List.setIfInBounds_toArray, List.set_cons_zero, List.set_cons_succ]
  refine wpAnyH_take (i := 5) (v := ?_) rfl (by kernel_rfl) (by kernel_rfl) (by kernel_rfl) (fun _ _ _ h => h) (Or.inl ⟨by rfl, ?_⟩) hHeld ?_
  rotate_left
  · intro w2 hSw
    go_simp
    all_goals rfl
  simp only [Act.put, List.getElem_toArray, List.getElem_cons_zero, List.getElem_cons_succ, List.setIfInBounds_toArray, List.set_cons_zero, List.set_cons_succ]
  refine wpAnyH_take (i := 6) (v := ?_) rfl (by kernel_rfl) (by kernel_rfl) (by kernel_rfl) (fun _ _ _ h => h) (Or.inl ⟨by rfl, ?_⟩) hHeld ?_
  rotate_left
  · intro w2 hSw
    go_simp
    all_goals rfl
  simp only [Act.put, List.getElem_toArray, List.getElem_cons_zero, List.getElem_cons_succ, List.setIfInBounds_toArray, List.set_cons_zero, List.set_cons_succ]
  refine wpAnyH_take (i := 7) (v := ?_) rfl (by kernel_rfl) (by kernel_rfl) (by kernel_rfl) (fun _ _ _ h => h) (Or.inl ⟨by rfl, ?_⟩) hHeld ?_
  rotate_left
  · intro w2 hSw
    go_simp
    all_goals rfl
  simp only [Act.put, List.getElem_toArray, List.getElem_cons_zero, List.getElem_cons_succ, List.setIfInBounds_toArray, List.set_cons_zero, List.set_cons_succ]
  refine wpAnyH_take (i := 8) (v := ?_) rfl (by kernel_rfl) (by kernel_rfl) (by kernel_rfl) (fun _ _ _ h => h) (Or.inl ⟨by rfl, ?_⟩) hHeld ?_
  rotate_left
  · intro w2 hSw
    go_simp
    all_goals rfl
  simp only [Act.put, List.getElem_toArray, List.getElem_cons_zero, List.getElem_cons_succ, List.setIfInBounds_toArray, List.set_cons_zero, List.set_cons_succ]
  refine wpAnyH_done (by kernel_rfl) ?_ _
  go_wp2
  go_ret2
  exact ⟨rfl, k3d.then hHeld⟩
end
end Go.Proofs.YthmanpfooegbcaaDoor
