/-
  Who may do an instruction, as the document's own rules answer it (Writes, Insn of the reference): walked whole, for every argument.
-/
import Derived.Test.YthmanpfooegbcaaDoorRefLeg3
namespace Go.Proofs.YthmanpfooegbcaaDoor
open Go.RowKit
theorem Six.kept {w w' : World} {b : Nat} {op rd rs1 rs2 imm csr : Int} (h : Six w b op rd rs1 rs2 imm csr) (g : Kept w w') : Six w' b op rd rs1 rs2 imm csr := by
  obtain ⟨a, b, c, d, e, f⟩ := h
  exact ⟨g.cell a, g.cell b, g.cell c, g.cell d, g.cell e, g.cell f⟩
set_option maxHeartbeats 1000000 in
theorem rwrites_any (op rd rs1 rs2 imm csr : Int) (w : World) :
    Calls Tryd.prog 34 #[.agg #[.int .i64 op, .int .i64 rd, .int .i64 rs1, .int .i64 rs2, .int .i64 imm, .int .i64 csr]] w fun e w' => e = .returned (.bool (wrB op rs1 imm)) ∧ Kept w w' := by
  unfold wrB
  cases h1 : op == 54 <;> cases h2 : op == 57 <;> cases h3 : rs1 != 0 <;> cases h4 : imm != 0
  all_goals
    go_enter Tryd.func34, Tryd.ntmps34
    go_wp2
    go_ret
    exact ⟨rfl, (Only.refl _ w).alloc _⟩
/-- A state and an instruction that the call itself holds. -/
theorem two_boxes (w : World) (S : StM) (op rd rs1 rs2 imm csr : Int) : StAt ((w.alloc (.cells (rowOf 65 (stF S)) 26)).alloc (.cells #[.int .i64 op, .int .i64 rd, .int .i64 rs1, .int .i64 rs2, .int .i64 imm, .int .i64 csr] 28)) w.heap.size S ∧ Six ((w.alloc (.cells (rowOf 65 (stF S)) 26)).alloc (.cells #[.int .i64 op, .int .i64 rd, .int .i64 rs1, .int .i64 rs2, .int .i64 imm, .int .i64 csr] 28)) (w.heap.size + 1) op rd rs1 rs2 imm csr ∧ Kept w ((w.alloc (.cells (rowOf 65 (stF S)) 26)).alloc (.cells #[.int .i64 op, .int .i64 rd, .int .i64 rs1, .int .i64 rs2, .int .i64 imm, .int .i64 csr] 28)) := by
  refine ⟨(st_new w S).more _, ?_, ((Only.refl _ w).alloc _).alloc _⟩
  have h := Six.new (w.alloc (.cells (rowOf 65 (stF S)) 26)) 28 op rd rs1 rs2 imm csr
  rwa [Go.Deep.nblk_alloc] at h
set_option maxRecDepth 10000 in
set_option maxHeartbeats 1000000 in
theorem rinsn_none {S : StM} (op rd rs1 rs2 imm csr : Int) (hi : isB op rd rs1 rs2 imm csr = false) (w : World) :
    Calls Tryd.prog 13 #[.agg (rowOf 65 (stF S)), .agg #[.int .i64 op, .int .i64 rd, .int .i64 rs1, .int .i64 rs2, .int .i64 imm, .int .i64 csr]] w fun e w' => e = .returned (.tuple #[.int .u64 2, .bool false]) ∧ Kept w w' := by
  obtain ⟨h1, i1, k1⟩ := two_boxes w S op rd rs1 rs2 imm csr
  go_enter Tryd.func13, Tryd.ntmps13
  go_wp2_with fail
  refine (ris_any _ _ _ _ _ _ _).mono ?_
  rintro e w1 ⟨rfl, g1⟩
  have k2 : Kept w w1 := k1.then (Only.of_grown g1)
  have h2 := h1.kept (Only.of_grown g1)
  have i2 := i1.grown g1
  rw [hi]
  go_wp2_with fail
  go_ret2
  exact ⟨rfl, k2⟩
set_option maxRecDepth 10000 in
set_option maxHeartbeats 1000000 in
theorem rinsn_plain {S : StM} (op rd rs1 rs2 imm csr : Int) (hi : isB op rd rs1 rs2 imm csr = true) (hp : op < 54) (w : World) :
    Calls Tryd.prog 13 #[.agg (rowOf 65 (stF S)), .agg #[.int .i64 op, .int .i64 rd, .int .i64 rs1, .int .i64 rs2, .int .i64 imm, .int .i64 csr]] w fun e w' => e = .returned (.tuple #[.int .u64 0, .bool true]) ∧ Kept w w' := by
  obtain ⟨h1, i1, k1⟩ := two_boxes w S op rd rs1 rs2 imm csr
  have hc : clsI op < 9 := by
    unfold clsI
    repeat (first | omega | split)
  have d9 : (clsI op == 9) = false := beq_eq_false_iff_ne.2 (by omega)
  have d11 : (clsI op == 11) = false := beq_eq_false_iff_ne.2 (by omega)
  have d12 : (clsI op == 12) = false := beq_eq_false_iff_ne.2 (by omega)
  have o60 : (op == 60) = false := beq_eq_false_iff_ne.2 (by omega)
  have o61 : (op == 61) = false := beq_eq_false_iff_ne.2 (by omega)
  have o62 : (op == 62) = false := beq_eq_false_iff_ne.2 (by omega)
  have o63 : (op == 63) = false := beq_eq_false_iff_ne.2 (by omega)
  clear hc hp
  go_enter Tryd.func13, Tryd.ntmps13
  go_wp2_with fail
  refine (ris_any _ _ _ _ _ _ _).mono ?_
  rintro e w1 ⟨rfl, g1⟩
  have k2 : Kept w w1 := k1.then (Only.of_grown g1)
  have h2 := h1.kept (Only.of_grown g1)
  have i2 := i1.grown g1
  rw [hi]
  go_wp2_with (refine wpList_load_is (by rfl) 26 _ rfl rfl h2 _ Tryd.underlying26 rfl st_size ?_)
  refine (rlevel_any S _).mono ?_
  rintro e w2 ⟨rfl, q3⟩
  generalize lvlI S = l
  have k3 := k2.then q3
  have h3 := h2.kept q3
  obtain ⟨c0, c1, c2, c3, c4, c5⟩ := i2.kept q3
  go_wp2_with fail
  refine (rclass_any _ _).mono ?_
  rintro e w' ⟨rfl, rfl⟩
  go_wp2_with fail
  go_ret2
  exact ⟨rfl, k3⟩
set_option maxRecDepth 10000 in
set_option maxHeartbeats 1000000 in
theorem rinsn_csr {S : StM} (hS : S.Ok) (op rd rs1 rs2 imm csr : Int) (hi : isB op rd rs1 rs2 imm csr = true) (hp : 54 ≤ op ∧ op ≤ 59) (w : World) :
    Calls Tryd.prog 13 #[.agg (rowOf 65 (stF S)), .agg #[.int .i64 op, .int .i64 rd, .int .i64 rs1, .int .i64 rs2, .int .i64 imm, .int .i64 csr]] w fun e w' => e = .returned (.tuple #[.int .u64 (csrC S csr (wrB op rs1 imm)), .bool ((csrC S csr (wrB op rs1 imm)) == 0)]) ∧ Kept w w' := by
  obtain ⟨h1, i1, k1⟩ := two_boxes w S op rd rs1 rs2 imm csr
  have hc : clsI op = 9 := (cls_9 hp.1 hp.2).symm
  clear hp
  go_enter Tryd.func13, Tryd.ntmps13
  go_wp2_with fail
  refine (ris_any _ _ _ _ _ _ _).mono ?_
  rintro e w1 ⟨rfl, g1⟩
  have k2 : Kept w w1 := k1.then (Only.of_grown g1)
  have h2 := h1.kept (Only.of_grown g1)
  have i2 := i1.grown g1
  rw [hi]
  go_wp2_with (refine wpList_load_is (by rfl) 26 _ rfl rfl h2 _ Tryd.underlying26 rfl st_size ?_)
  refine (rlevel_any S _).mono ?_
  rintro e w2 ⟨rfl, q3⟩
  generalize lvlI S = l
  have k3 := k2.then q3
  have h3 := h2.kept q3
  obtain ⟨c0, c1, c2, c3, c4, c5⟩ := i2.kept q3
  go_wp2_with fail
  refine (rclass_any _ _).mono ?_
  rintro e w' ⟨rfl, rfl⟩
  rw [hc]
  go_wp2
  have k3d := k3.drew
  have h3d := h3.kept ((Only.refl _ w').drew)
  have i3d := (i2.kept q3).kept ((Only.refl _ w').drew)
  refine wp_region_held_drew (S := fun w2' => Kept w'.drew w2') (by kernel_rfl) (Only.refl _ _) (fun hHeld => ?_)
  refine wpAnyH_take (i := 0) (v := .agg (rowOf 65 (stF S))) rfl (by kernel_rfl) (by kernel_rfl) (by kernel_rfl) (fun _ _ _ h => h) (Or.inl ⟨by rfl, ?_⟩) hHeld ?_
  · intro w2 hSw
    exact exec_load rfl rfl (load_state (h3d.kept hSw))
  simp only [Act.put, List.getElem_toArray, List.getElem_cons_zero, List.setIfInBounds_toArray, List.set_cons_zero, List.set_cons_succ]
  refine wpAnyH_take (i := 1) (v := ?_) rfl (by kernel_rfl) (by kernel_rfl) (by kernel_rfl) (fun _ _ _ h => h) (Or.inl ⟨by rfl, ?_⟩) hHeld ?_
  rotate_left
  · intro w2 hSw
    go_simp
    all_goals rfl
  simp only [Act.put, List.getElem_toArray, List.getElem_cons_zero, List.getElem_cons_succ, List.setIfInBounds_toArray, List.set_cons_zero, List.set_cons_succ]
  refine wpAnyH_take (i := 2) (v := ?_) rfl (by kernel_rfl) (by kernel_rfl) (by kernel_rfl) (fun _ _ _ h => h) (Or.inl ⟨by rfl, ?_⟩) hHeld ?_
  rotate_left
  · intro w2 hSw
    obtain ⟨c0, c1, c2, c3, c4, c5⟩ := i3d.kept hSw
    go_simp
    all_goals rfl
  simp only [Act.put, List.getElem_toArray, List.getElem_cons_zero, List.getElem_cons_succ, List.setIfInBounds_toArray, List.set_cons_zero, List.set_cons_succ]
  refine wpAnyH_ready (rs := [3]) (by kernel_rfl) (by simp) ?_
  refine AllReadyH.cons rfl (fun K hK => ?_) AllReadyH.nil
  go_simp
  refine (rwrites_any _ _ _ _ _ _ _).mono ?_
  rintro e wn ⟨rfl, kn⟩
  go_simp
  refine hK.out _ _ (hHeld.then kn) (fun hHeld => ?_)
  clear hK K
  try simp only [Act.put, List.setIfInBounds_toArray, List.set_cons_zero, List.set_cons_succ]
  refine wpAnyH_ready (rs := [4]) (by kernel_rfl) (by simp) ?_
  refine AllReadyH.cons rfl (fun K hK => ?_) AllReadyH.nil
  go_simp
  refine (rcsr_any8 hS _ _ _).mono ?_
  rintro e wn ⟨rfl, kn⟩
  go_simp
  refine hK.out _ _ (hHeld.then kn) (fun hHeld => ?_)
  clear hK K
  try simp only [Act.put, List.setIfInBounds_toArray, List.set_cons_zero, List.set_cons_succ]
  refine wpAnyH_take (i := 5) (v := ?_) rfl (by kernel_rfl) (by kernel_rfl) (by kernel_rfl) (fun _ _ _ h => h) (Or.inl ⟨by rfl, ?_⟩) hHeld ?_
  rotate_left
  · intro w2 hSw
    go_simp
    all_goals rfl
  simp only [Act.put, List.getElem_toArray, List.getElem_cons_zero, List.getElem_cons_succ, List.setIfInBounds_toArray, List.set_cons_zero, List.set_cons_succ]
  refine wpAnyH_take (i := 6) (v := ?_) rfl (by kernel_rfl) (by kernel_rfl) (by kernel_rfl) (fun _ _ _ h => h) (Or.inl ⟨by rfl, ?_⟩) hHeld ?_
  rotate_left
  · intro w2 hSw
    go_simp
    all_goals rfl
  simp only [Act.put, List.getElem_toArray, List.getElem_cons_zero, List.getElem_cons_succ, List.setIfInBounds_toArray, List.set_cons_zero, List.set_cons_succ]
  refine wpAnyH_take (i := 7) (v := ?_) rfl (by kernel_rfl) (by kernel_rfl) (by kernel_rfl) (fun _ _ _ h => h) (Or.inl ⟨by rfl, ?_⟩) hHeld ?_
  rotate_left
  · intro w2 hSw
    go_simp
    all_goals rfl
  simp only [Act.put, List.getElem_toArray, List.getElem_cons_zero, List.getElem_cons_succ, List.setIfInBounds_toArray, List.set_cons_zero, List.set_cons_succ]
  refine wpAnyH_take (i := 8) (v := ?_) rfl (by kernel_rfl) (by kernel_rfl) (by kernel_rfl) (fun _ _ _ h => h) (Or.inl ⟨by rfl, ?_⟩) hHeld ?_
  rotate_left
  · intro w2 hSw
    go_simp
    all_goals rfl
  simp only [Act.put, List.getElem_toArray, List.getElem_cons_zero, List.getElem_cons_succ, List.setIfInBounds_toArray, List.set_cons_zero, List.set_cons_succ]
  refine wpAnyH_done (by kernel_rfl) ?_ _
  go_wp2
  go_ret2
  exact ⟨rfl, k3d.then hHeld⟩
set_option maxRecDepth 10000 in
set_option maxHeartbeats 1000000 in
theorem rinsn_61 {S : StM} (hS : S.Ok) (op rd rs1 rs2 imm csr : Int) (hi : isB op rd rs1 rs2 imm csr = true) (ho : op = 61)  (w : World) :
    Calls Tryd.prog 13 #[.agg (rowOf 65 (stF S)), .agg #[.int .i64 op, .int .i64 rd, .int .i64 rs1, .int .i64 rs2, .int .i64 imm, .int .i64 csr]] w fun e w' => e = .returned (.tuple #[.int .u64 (kepC S 22), .bool ((kepC S 22) == 0)]) ∧ Kept w w' := by
  obtain ⟨h1, i1, k1⟩ := two_boxes w S op rd rs1 rs2 imm csr
  subst ho
  have hc : clsI 61 = 10 := by decide
  go_enter Tryd.func13, Tryd.ntmps13
  go_wp2_with fail
  refine (ris_any _ _ _ _ _ _ _).mono ?_
  rintro e w1 ⟨rfl, g1⟩
  have k2 : Kept w w1 := k1.then (Only.of_grown g1)
  have h2 := h1.kept (Only.of_grown g1)
  have i2 := i1.grown g1
  rw [hi]
  go_wp2_with (refine wpList_load_is (by rfl) 26 _ rfl rfl h2 _ Tryd.underlying26 rfl st_size ?_)
  refine (rlevel_any S _).mono ?_
  rintro e w2 ⟨rfl, q3⟩
  have k3 := k2.then q3
  have h3 := h2.kept q3
  obtain ⟨c0, c1, c2, c3, c4, c5⟩ := i2.kept q3
  go_wp2_with fail
  refine (rclass_any _ _).mono ?_
  rintro e w' ⟨rfl, rfl⟩
  rw [hc]
  go_wp2_with (refine wpList_load_is (by rfl) 26 _ rfl rfl h3 _ Tryd.underlying26 rfl st_size ?_)
  refine (rkept_any hS (k := 22) (by omega) _).mono ?_
  rintro e w4 ⟨rfl, q4⟩
  go_wp2_with fail
  go_ret2
  exact ⟨rfl, k3.then q4⟩
set_option maxRecDepth 10000 in
set_option maxHeartbeats 1000000 in
theorem rinsn_63 {S : StM} (hS : S.Ok) (op rd rs1 rs2 imm csr : Int) (hi : isB op rd rs1 rs2 imm csr = true) (ho : op = 63)  (w : World) :
    Calls Tryd.prog 13 #[.agg (rowOf 65 (stF S)), .agg #[.int .i64 op, .int .i64 rd, .int .i64 rs1, .int .i64 rs2, .int .i64 imm, .int .i64 csr]] w fun e w' => e = .returned (.tuple #[.int .u64 (kepC S 20), .bool ((kepC S 20) == 0)]) ∧ Kept w w' := by
  obtain ⟨h1, i1, k1⟩ := two_boxes w S op rd rs1 rs2 imm csr
  subst ho
  have hc : clsI 63 = 11 := by decide
  go_enter Tryd.func13, Tryd.ntmps13
  go_wp2_with fail
  refine (ris_any _ _ _ _ _ _ _).mono ?_
  rintro e w1 ⟨rfl, g1⟩
  have k2 : Kept w w1 := k1.then (Only.of_grown g1)
  have h2 := h1.kept (Only.of_grown g1)
  have i2 := i1.grown g1
  rw [hi]
  go_wp2_with (refine wpList_load_is (by rfl) 26 _ rfl rfl h2 _ Tryd.underlying26 rfl st_size ?_)
  refine (rlevel_any S _).mono ?_
  rintro e w2 ⟨rfl, q3⟩
  have k3 := k2.then q3
  have h3 := h2.kept q3
  obtain ⟨c0, c1, c2, c3, c4, c5⟩ := i2.kept q3
  go_wp2_with fail
  refine (rclass_any _ _).mono ?_
  rintro e w' ⟨rfl, rfl⟩
  rw [hc]
  go_wp2_with (refine wpList_load_is (by rfl) 26 _ rfl rfl h3 _ Tryd.underlying26 rfl st_size ?_)
  refine (rkept_any hS (k := 20) (by omega) _).mono ?_
  rintro e w4 ⟨rfl, q4⟩
  go_wp2_with fail
  go_ret2
  exact ⟨rfl, k3.then q4⟩
set_option maxRecDepth 10000 in
set_option maxHeartbeats 1000000 in
theorem rinsn_m {S : StM} (op rd rs1 rs2 imm csr l c r : Int) (b : Bool) (hi : isB op rd rs1 rs2 imm csr = true) (hl : lvlI S = l) (hc : clsI op = c) (h : (op = 60 ∧ l = 0 ∧ c = 10 ∧ b = false ∧ r = 2) ∨ (op = 60 ∧ l = 1 ∧ c = 10 ∧ b = false ∧ r = 2) ∨ (op = 60 ∧ l = 3 ∧ c = 10 ∧ b = true ∧ r = 0) ∨ (op = 60 ∧ l = 4 ∧ c = 10 ∧ b = false ∧ r = 2) ∨ (op = 60 ∧ l = 5 ∧ c = 10 ∧ b = false ∧ r = 2)) (w : World) :
    Calls Tryd.prog 13 #[.agg (rowOf 65 (stF S)), .agg #[.int .i64 op, .int .i64 rd, .int .i64 rs1, .int .i64 rs2, .int .i64 imm, .int .i64 csr]] w fun e w' => e = .returned (.tuple #[.int .u64 r, .bool (r == 0)]) ∧ Kept w w' := by
  obtain ⟨h1, i1, k1⟩ := two_boxes w S op rd rs1 rs2 imm csr
  rcases h with ⟨rfl, rfl, rfl, rfl, rfl⟩ | ⟨rfl, rfl, rfl, rfl, rfl⟩ | ⟨rfl, rfl, rfl, rfl, rfl⟩ | ⟨rfl, rfl, rfl, rfl, rfl⟩ | ⟨rfl, rfl, rfl, rfl, rfl⟩
  all_goals
    go_enter Tryd.func13, Tryd.ntmps13
    go_wp2_with fail
    refine (ris_any _ _ _ _ _ _ _).mono ?_
    rintro e w1 ⟨rfl, g1⟩
    have k2 : Kept w w1 := k1.then (Only.of_grown g1)
    have h2 := h1.kept (Only.of_grown g1)
    have i2 := i1.grown g1
    rw [hi]
    go_wp2_with (refine wpList_load_is (by rfl) 26 _ rfl rfl h2 _ Tryd.underlying26 rfl st_size ?_)
    refine (rlevel_any S _).mono ?_
    rintro e w2 ⟨rfl, q3⟩
    rw [hl]
    have k3 := k2.then q3
    have h3 := h2.kept q3
    obtain ⟨c0, c1, c2, c3, c4, c5⟩ := i2.kept q3
    go_wp2_with fail
    refine (rclass_any _ _).mono ?_
    rintro e w' ⟨rfl, rfl⟩
    rw [hc]
    go_wp2_with fail
    refine (rneed_any _ _).mono ?_
    rintro e w'' ⟨rfl, rfl⟩
    go_wp2_with fail
    go_ret2
    exact ⟨rfl, k3⟩
set_option maxRecDepth 10000 in
set_option maxHeartbeats 1000000 in
theorem rinsn_pl {S : StM} (op rd rs1 rs2 imm csr l c r : Int) (hi : isB op rd rs1 rs2 imm csr = true) (hl : lvlI S = l) (hc : clsI op = c) (h : (op = 62 ∧ l = 0 ∧ c = 10 ∧ r = 2) ∨ (op = 62 ∧ l = 3 ∧ c = 10 ∧ r = 0) ∨ (op = 64 ∧ l = 0 ∧ c = 11 ∧ r = 2) ∨ (op = 64 ∧ l = 1 ∧ c = 11 ∧ r = 0) ∨ (op = 64 ∧ l = 3 ∧ c = 11 ∧ r = 0) ∨ (op = 64 ∧ l = 4 ∧ c = 11 ∧ r = 22) ∨ (op = 64 ∧ l = 5 ∧ c = 11 ∧ r = 22) ∨ (op = 65 ∧ l = 0 ∧ c = 11 ∧ r = 2) ∨ (op = 65 ∧ l = 3 ∧ c = 11 ∧ r = 0) ∨ (op = 65 ∧ l = 4 ∧ c = 11 ∧ r = 22) ∨ (op = 65 ∧ l = 5 ∧ c = 11 ∧ r = 22) ∨ (op = 66 ∧ l = 1 ∧ c = 12 ∧ r = 0) ∨ (op = 66 ∧ l = 3 ∧ c = 12 ∧ r = 0) ∨ (op = 66 ∧ l = 4 ∧ c = 12 ∧ r = 22) ∨ (op = 66 ∧ l = 5 ∧ c = 12 ∧ r = 22) ∨ (op = 67 ∧ l = 1 ∧ c = 12 ∧ r = 0) ∨ (op = 67 ∧ l = 3 ∧ c = 12 ∧ r = 0) ∨ (op = 67 ∧ l = 4 ∧ c = 12 ∧ r = 22) ∨ (op = 67 ∧ l = 5 ∧ c = 12 ∧ r = 22) ∨ (op = 68 ∧ l = 1 ∧ c = 12 ∧ r = 0) ∨ (op = 68 ∧ l = 3 ∧ c = 12 ∧ r = 0) ∨ (op = 68 ∧ l = 4 ∧ c = 12 ∧ r = 22) ∨ (op = 68 ∧ l = 5 ∧ c = 12 ∧ r = 22) ∨ (op = 69 ∧ l = 1 ∧ c = 12 ∧ r = 0) ∨ (op = 69 ∧ l = 3 ∧ c = 12 ∧ r = 0) ∨ (op = 69 ∧ l = 4 ∧ c = 12 ∧ r = 22) ∨ (op = 69 ∧ l = 5 ∧ c = 12 ∧ r = 22)) (w : World) :
    Calls Tryd.prog 13 #[.agg (rowOf 65 (stF S)), .agg #[.int .i64 op, .int .i64 rd, .int .i64 rs1, .int .i64 rs2, .int .i64 imm, .int .i64 csr]] w fun e w' => e = .returned (.tuple #[.int .u64 r, .bool (r == 0)]) ∧ Kept w w' := by
  obtain ⟨h1, i1, k1⟩ := two_boxes w S op rd rs1 rs2 imm csr
  rcases h with ⟨rfl, rfl, rfl, rfl⟩ | ⟨rfl, rfl, rfl, rfl⟩ | ⟨rfl, rfl, rfl, rfl⟩ | ⟨rfl, rfl, rfl, rfl⟩ | ⟨rfl, rfl, rfl, rfl⟩ | ⟨rfl, rfl, rfl, rfl⟩ | ⟨rfl, rfl, rfl, rfl⟩ | ⟨rfl, rfl, rfl, rfl⟩ | ⟨rfl, rfl, rfl, rfl⟩ | ⟨rfl, rfl, rfl, rfl⟩ | ⟨rfl, rfl, rfl, rfl⟩ | ⟨rfl, rfl, rfl, rfl⟩ | ⟨rfl, rfl, rfl, rfl⟩ | ⟨rfl, rfl, rfl, rfl⟩ | ⟨rfl, rfl, rfl, rfl⟩ | ⟨rfl, rfl, rfl, rfl⟩ | ⟨rfl, rfl, rfl, rfl⟩ | ⟨rfl, rfl, rfl, rfl⟩ | ⟨rfl, rfl, rfl, rfl⟩ | ⟨rfl, rfl, rfl, rfl⟩ | ⟨rfl, rfl, rfl, rfl⟩ | ⟨rfl, rfl, rfl, rfl⟩ | ⟨rfl, rfl, rfl, rfl⟩ | ⟨rfl, rfl, rfl, rfl⟩ | ⟨rfl, rfl, rfl, rfl⟩ | ⟨rfl, rfl, rfl, rfl⟩ | ⟨rfl, rfl, rfl, rfl⟩
  all_goals
    go_enter Tryd.func13, Tryd.ntmps13
    go_wp2_with fail
    refine (ris_any _ _ _ _ _ _ _).mono ?_
    rintro e w1 ⟨rfl, g1⟩
    have k2 : Kept w w1 := k1.then (Only.of_grown g1)
    have h2 := h1.kept (Only.of_grown g1)
    have i2 := i1.grown g1
    rw [hi]
    go_wp2_with (refine wpList_load_is (by rfl) 26 _ rfl rfl h2 _ Tryd.underlying26 rfl st_size ?_)
    refine (rlevel_any S _).mono ?_
    rintro e w2 ⟨rfl, q3⟩
    rw [hl]
    have k3 := k2.then q3
    have h3 := h2.kept q3
    obtain ⟨c0, c1, c2, c3, c4, c5⟩ := i2.kept q3
    go_wp2_with fail
    refine (rclass_any _ _).mono ?_
    rintro e w' ⟨rfl, rfl⟩
    rw [hc]
    go_wp2_with fail
    go_ret2
    exact ⟨rfl, k3⟩
set_option maxRecDepth 10000 in
set_option maxHeartbeats 1000000 in
theorem rinsn_b0 {S : StM} (hS : S.Ok) (op rd rs1 rs2 imm csr l c r : Int) {k : Nat} {b : Bool} (hi : isB op rd rs1 rs2 imm csr = true) (hl : lvlI S = l) (hc : clsI op = c) (hk : k < 64) (hb : bitB (S.C 0) k = b) (h : (op = 62 ∧ l = 1 ∧ c = 10 ∧ k = 21 ∧ b = false ∧ r = 0) ∨ (op = 62 ∧ l = 1 ∧ c = 10 ∧ k = 21 ∧ b = true ∧ r = 2) ∨ (op = 62 ∧ l = 4 ∧ c = 10 ∧ k = 21 ∧ b = false ∧ r = 22) ∨ (op = 62 ∧ l = 4 ∧ c = 10 ∧ k = 21 ∧ b = true ∧ r = 2) ∨ (op = 62 ∧ l = 5 ∧ c = 10 ∧ k = 21 ∧ b = true ∧ r = 2) ∨ (op = 65 ∧ l = 1 ∧ c = 11 ∧ k = 20 ∧ b = false ∧ r = 0) ∨ (op = 65 ∧ l = 1 ∧ c = 11 ∧ k = 20 ∧ b = true ∧ r = 2)) (w : World) :
    Calls Tryd.prog 13 #[.agg (rowOf 65 (stF S)), .agg #[.int .i64 op, .int .i64 rd, .int .i64 rs1, .int .i64 rs2, .int .i64 imm, .int .i64 csr]] w fun e w' => e = .returned (.tuple #[.int .u64 r, .bool (r == 0)]) ∧ Kept w w' := by
  obtain ⟨h1, i1, k1⟩ := two_boxes w S op rd rs1 rs2 imm csr
  have hbit := fun w => rbit_0 hS hk w
  rcases h with ⟨rfl, rfl, rfl, rfl, rfl, rfl⟩ | ⟨rfl, rfl, rfl, rfl, rfl, rfl⟩ | ⟨rfl, rfl, rfl, rfl, rfl, rfl⟩ | ⟨rfl, rfl, rfl, rfl, rfl, rfl⟩ | ⟨rfl, rfl, rfl, rfl, rfl, rfl⟩ | ⟨rfl, rfl, rfl, rfl, rfl, rfl⟩ | ⟨rfl, rfl, rfl, rfl, rfl, rfl⟩
  all_goals
    go_enter Tryd.func13, Tryd.ntmps13
    go_wp2_with fail
    refine (ris_any _ _ _ _ _ _ _).mono ?_
    rintro e w1 ⟨rfl, g1⟩
    have k2 : Kept w w1 := k1.then (Only.of_grown g1)
    have h2 := h1.kept (Only.of_grown g1)
    have i2 := i1.grown g1
    rw [hi]
    go_wp2_with (refine wpList_load_is (by rfl) 26 _ rfl rfl h2 _ Tryd.underlying26 rfl st_size ?_)
    refine (rlevel_any S _).mono ?_
    rintro e w2 ⟨rfl, q3⟩
    rw [hl]
    have k3 := k2.then q3
    have h3 := h2.kept q3
    obtain ⟨c0, c1, c2, c3, c4, c5⟩ := i2.kept q3
    go_wp2_with fail
    refine (rclass_any _ _).mono ?_
    rintro e w' ⟨rfl, rfl⟩
    rw [hc]
    go_wp2_with (refine wpList_load_is (by rfl) 26 _ rfl rfl h3 _ Tryd.underlying26 rfl st_size ?_)
    refine (hbit _).mono ?_
    rintro e u0 ⟨rfl, r0⟩
    have h4 := h3.kept r0
    obtain ⟨f0, _⟩ := (i2.kept q3).kept r0
    rw [hb]
    go_wp2_with fail
    go_ret2
    exact ⟨rfl, k3.then r0⟩
set_option maxRecDepth 10000 in
set_option maxHeartbeats 1000000 in
theorem rinsn_b16 {S : StM} (hS : S.Ok) (op rd rs1 rs2 imm csr l c r : Int) {k : Nat} {b : Bool} (hi : isB op rd rs1 rs2 imm csr = true) (hl : lvlI S = l) (hc : clsI op = c) (hk : k < 64) (hb : bitB (S.C 16) k = b) (h : (op = 66 ∧ l = 0 ∧ c = 12 ∧ k = 9 ∧ b = false ∧ r = 2) ∨ (op = 66 ∧ l = 0 ∧ c = 12 ∧ k = 9 ∧ b = true ∧ r = 0) ∨ (op = 67 ∧ l = 0 ∧ c = 12 ∧ k = 9 ∧ b = false ∧ r = 2) ∨ (op = 67 ∧ l = 0 ∧ c = 12 ∧ k = 9 ∧ b = true ∧ r = 0) ∨ (op = 68 ∧ l = 0 ∧ c = 12 ∧ k = 9 ∧ b = false ∧ r = 2) ∨ (op = 68 ∧ l = 0 ∧ c = 12 ∧ k = 9 ∧ b = true ∧ r = 0) ∨ (op = 69 ∧ l = 0 ∧ c = 12 ∧ k = 9 ∧ b = false ∧ r = 2) ∨ (op = 69 ∧ l = 0 ∧ c = 12 ∧ k = 9 ∧ b = true ∧ r = 0)) (w : World) :
    Calls Tryd.prog 13 #[.agg (rowOf 65 (stF S)), .agg #[.int .i64 op, .int .i64 rd, .int .i64 rs1, .int .i64 rs2, .int .i64 imm, .int .i64 csr]] w fun e w' => e = .returned (.tuple #[.int .u64 r, .bool (r == 0)]) ∧ Kept w w' := by
  obtain ⟨h1, i1, k1⟩ := two_boxes w S op rd rs1 rs2 imm csr
  have hbit := fun w => rbit_16 hS hk w
  rcases h with ⟨rfl, rfl, rfl, rfl, rfl, rfl⟩ | ⟨rfl, rfl, rfl, rfl, rfl, rfl⟩ | ⟨rfl, rfl, rfl, rfl, rfl, rfl⟩ | ⟨rfl, rfl, rfl, rfl, rfl, rfl⟩ | ⟨rfl, rfl, rfl, rfl, rfl, rfl⟩ | ⟨rfl, rfl, rfl, rfl, rfl, rfl⟩ | ⟨rfl, rfl, rfl, rfl, rfl, rfl⟩ | ⟨rfl, rfl, rfl, rfl, rfl, rfl⟩
  all_goals
    go_enter Tryd.func13, Tryd.ntmps13
    go_wp2_with fail
    refine (ris_any _ _ _ _ _ _ _).mono ?_
    rintro e w1 ⟨rfl, g1⟩
    have k2 : Kept w w1 := k1.then (Only.of_grown g1)
    have h2 := h1.kept (Only.of_grown g1)
    have i2 := i1.grown g1
    rw [hi]
    go_wp2_with (refine wpList_load_is (by rfl) 26 _ rfl rfl h2 _ Tryd.underlying26 rfl st_size ?_)
    refine (rlevel_any S _).mono ?_
    rintro e w2 ⟨rfl, q3⟩
    rw [hl]
    have k3 := k2.then q3
    have h3 := h2.kept q3
    obtain ⟨c0, c1, c2, c3, c4, c5⟩ := i2.kept q3
    go_wp2_with fail
    refine (rclass_any _ _).mono ?_
    rintro e w' ⟨rfl, rfl⟩
    rw [hc]
    go_wp2_with (refine wpList_load_is (by rfl) 26 _ rfl rfl h3 _ Tryd.underlying26 rfl st_size ?_)
    refine (hbit _).mono ?_
    rintro e u0 ⟨rfl, r0⟩
    have h4 := h3.kept r0
    obtain ⟨f0, _⟩ := (i2.kept q3).kept r0
    rw [hb]
    go_wp2_with fail
    go_ret2
    exact ⟨rfl, k3.then r0⟩
set_option maxRecDepth 10000 in
set_option maxHeartbeats 1000000 in
theorem rinsn_bb {S : StM} (hS : S.Ok) (op rd rs1 rs2 imm csr l c r : Int) {b : Bool} (hi : isB op rd rs1 rs2 imm csr = true) (hl : lvlI S = l) (hc : clsI op = c) (ha : bitB (S.C 0) 21 = false) (hb : bitB (S.C 16) 21 = b) (h : (op = 62 ∧ l = 5 ∧ c = 10 ∧ b = false ∧ r = 0) ∨ (op = 62 ∧ l = 5 ∧ c = 10 ∧ b = true ∧ r = 22)) (w : World) :
    Calls Tryd.prog 13 #[.agg (rowOf 65 (stF S)), .agg #[.int .i64 op, .int .i64 rd, .int .i64 rs1, .int .i64 rs2, .int .i64 imm, .int .i64 csr]] w fun e w' => e = .returned (.tuple #[.int .u64 r, .bool (r == 0)]) ∧ Kept w w' := by
  obtain ⟨h1, i1, k1⟩ := two_boxes w S op rd rs1 rs2 imm csr
  rcases h with ⟨rfl, rfl, rfl, rfl, rfl⟩ | ⟨rfl, rfl, rfl, rfl, rfl⟩
  all_goals
    go_enter Tryd.func13, Tryd.ntmps13
    go_wp2_with fail
    refine (ris_any _ _ _ _ _ _ _).mono ?_
    rintro e w1 ⟨rfl, g1⟩
    have k2 : Kept w w1 := k1.then (Only.of_grown g1)
    have h2 := h1.kept (Only.of_grown g1)
    have i2 := i1.grown g1
    rw [hi]
    go_wp2_with (refine wpList_load_is (by rfl) 26 _ rfl rfl h2 _ Tryd.underlying26 rfl st_size ?_)
    refine (rlevel_any S _).mono ?_
    rintro e w2 ⟨rfl, q3⟩
    rw [hl]
    have k3 := k2.then q3
    have h3 := h2.kept q3
    obtain ⟨c0, c1, c2, c3, c4, c5⟩ := i2.kept q3
    go_wp2_with fail
    refine (rclass_any _ _).mono ?_
    rintro e w' ⟨rfl, rfl⟩
    rw [hc]
    go_wp2_with (refine wpList_load_is (by rfl) 26 _ rfl rfl h3 _ Tryd.underlying26 rfl st_size ?_)
    refine (rbit_0 hS (k := 21) (by omega) _).mono ?_
    rintro e u0 ⟨rfl, r0⟩
    have h4 := h3.kept r0
    obtain ⟨f0, _⟩ := (i2.kept q3).kept r0
    rw [ha]
    go_wp2_with (refine wpList_load_is (by rfl) 26 _ rfl rfl h4 _ Tryd.underlying26 rfl st_size ?_)
    refine (rbit_16 hS (k := 21) (by omega) _).mono ?_
    rintro e u1 ⟨rfl, r1⟩
    have h5 := h4.kept r1
    obtain ⟨f1, _⟩ := (i2.kept q3).kept (r0.then r1)
    rw [hb]
    go_wp2_with fail
    go_ret2
    exact ⟨rfl, (k3.then r0).then r1⟩
theorem rinsn_any {S : StM} (hS : S.Ok) (op rd rs1 rs2 imm csr : Int) (w : World) :
    Calls Tryd.prog 13 #[.agg (rowOf 65 (stF S)), .agg #[.int .i64 op, .int .i64 rd, .int .i64 rs1, .int .i64 rs2, .int .i64 imm, .int .i64 csr]] w fun e w' => e = .returned (.tuple #[.int .u64 (insC S op rd rs1 rs2 imm csr), .bool (insC S op rd rs1 rs2 imm csr == 0)]) ∧ Kept w w' := by
  cases hi : isB op rd rs1 rs2 imm csr
  · have hr : insC S op rd rs1 rs2 imm csr = 2 := by unfold insC; rw [hi]; rfl
    rw [hr]
    exact rinsn_none op rd rs1 rs2 imm csr hi w
  · by_cases hp : op < 54
    · have hc : clsI op < 9 := by
        unfold clsI
        repeat (first | omega | split)
      have hr : insC S op rd rs1 rs2 imm csr = 0 := by
        unfold insC
        rw [hi, beq_eq_false_iff_ne.2 (show clsI op ≠ 9 by omega), beq_eq_false_iff_ne.2 (show op ≠ 60 by omega), beq_eq_false_iff_ne.2 (show op ≠ 61 by omega), beq_eq_false_iff_ne.2 (show op ≠ 63 by omega), beq_eq_false_iff_ne.2 (show op ≠ 62 by omega), beq_eq_false_iff_ne.2 (show clsI op ≠ 11 by omega), beq_eq_false_iff_ne.2 (show clsI op ≠ 12 by omega)]
        rfl
      rw [hr]
      exact rinsn_plain op rd rs1 rs2 imm csr hi hp w
    · by_cases hq : op ≤ 59
      · have hc : clsI op = 9 := (cls_9 (by omega) hq).symm
        have hr : insC S op rd rs1 rs2 imm csr = csrC S csr (wrB op rs1 imm) := by unfold insC; rw [hi, hc]; rfl
        rw [hr]
        exact rinsn_csr hS op rd rs1 rs2 imm csr hi (by omega) w
      · have hlt : op < 70 := by
          by_cases h : op < 70
          · exact h
          · have e : isB op rd rs1 rs2 imm csr = false := by unfold isB; rw [← cls_0 (.inr (by omega))]; rfl
            rw [e] at hi; cases hi
        have hop : op = 60 ∨ op = 61 ∨ op = 62 ∨ op = 63 ∨ op = 64 ∨ op = 65 ∨ op = 66 ∨ op = 67 ∨ op = 68 ∨ op = 69 := by omega
        rcases hop with ho | ho | ho | ho | ho | ho | ho | ho | ho | ho
        · rcases lvl_ways S with hl | hl | hl | hl | hl
          · have hr : insC S op rd rs1 rs2 imm csr = 2 := by unfold insC; rw [hi, ho, hl]; rfl
            rw [hr]
            exact rinsn_m op rd rs1 rs2 imm csr 0 10 2 false hi hl (by rw [ho]; decide) (by simp [ho]) w
          · have hr : insC S op rd rs1 rs2 imm csr = 2 := by unfold insC; rw [hi, ho, hl]; rfl
            rw [hr]
            exact rinsn_m op rd rs1 rs2 imm csr 1 10 2 false hi hl (by rw [ho]; decide) (by simp [ho]) w
          · have hr : insC S op rd rs1 rs2 imm csr = 0 := by unfold insC; rw [hi, ho, hl]; rfl
            rw [hr]
            exact rinsn_m op rd rs1 rs2 imm csr 3 10 0 true hi hl (by rw [ho]; decide) (by simp [ho]) w
          · have hr : insC S op rd rs1 rs2 imm csr = 2 := by unfold insC; rw [hi, ho, hl]; rfl
            rw [hr]
            exact rinsn_m op rd rs1 rs2 imm csr 4 10 2 false hi hl (by rw [ho]; decide) (by simp [ho]) w
          · have hr : insC S op rd rs1 rs2 imm csr = 2 := by unfold insC; rw [hi, ho, hl]; rfl
            rw [hr]
            exact rinsn_m op rd rs1 rs2 imm csr 5 10 2 false hi hl (by rw [ho]; decide) (by simp [ho]) w
        · have hr : insC S op rd rs1 rs2 imm csr = kepC S 22 := by unfold insC; rw [hi, ho]; rfl
          rw [hr]
          exact rinsn_61 hS op rd rs1 rs2 imm csr hi ho w
        · rcases lvl_ways S with hl | hl | hl | hl | hl
          · have hr : insC S op rd rs1 rs2 imm csr = 2 := by unfold insC wfiC; rw [hi, ho, hl]; rfl
            rw [hr]
            exact rinsn_pl op rd rs1 rs2 imm csr 0 10 2 hi hl (by rw [ho]; decide) (by simp [ho]) w
          · cases hb0 : bitB (S.C 0) 21
            · have hr : insC S op rd rs1 rs2 imm csr = 0 := by unfold insC wfiC; rw [hi, ho, hl, hb0]; rfl
              rw [hr]
              exact rinsn_b0 hS op rd rs1 rs2 imm csr 1 10 0 hi hl (by rw [ho]; decide) (by omega) hb0 (by simp [ho]) w
            · have hr : insC S op rd rs1 rs2 imm csr = 2 := by unfold insC wfiC; rw [hi, ho, hl, hb0]; rfl
              rw [hr]
              exact rinsn_b0 hS op rd rs1 rs2 imm csr 1 10 2 hi hl (by rw [ho]; decide) (by omega) hb0 (by simp [ho]) w
          · have hr : insC S op rd rs1 rs2 imm csr = 0 := by unfold insC wfiC; rw [hi, ho, hl]; rfl
            rw [hr]
            exact rinsn_pl op rd rs1 rs2 imm csr 3 10 0 hi hl (by rw [ho]; decide) (by simp [ho]) w
          · cases hb0 : bitB (S.C 0) 21
            · have hr : insC S op rd rs1 rs2 imm csr = 22 := by unfold insC wfiC; rw [hi, ho, hl, hb0]; rfl
              rw [hr]
              exact rinsn_b0 hS op rd rs1 rs2 imm csr 4 10 22 hi hl (by rw [ho]; decide) (by omega) hb0 (by simp [ho]) w
            · have hr : insC S op rd rs1 rs2 imm csr = 2 := by unfold insC wfiC; rw [hi, ho, hl, hb0]; rfl
              rw [hr]
              exact rinsn_b0 hS op rd rs1 rs2 imm csr 4 10 2 hi hl (by rw [ho]; decide) (by omega) hb0 (by simp [ho]) w
          · cases hb0 : bitB (S.C 0) 21
            · cases hb1 : bitB (S.C 16) 21
              · have hr : insC S op rd rs1 rs2 imm csr = 0 := by unfold insC wfiC; rw [hi, ho, hl, hb0, hb1]; rfl
                rw [hr]
                exact rinsn_bb hS op rd rs1 rs2 imm csr 5 10 0 hi hl (by rw [ho]; decide) hb0 hb1 (by simp [ho]) w
              · have hr : insC S op rd rs1 rs2 imm csr = 22 := by unfold insC wfiC; rw [hi, ho, hl, hb0, hb1]; rfl
                rw [hr]
                exact rinsn_bb hS op rd rs1 rs2 imm csr 5 10 22 hi hl (by rw [ho]; decide) hb0 hb1 (by simp [ho]) w
            · have hr : insC S op rd rs1 rs2 imm csr = 2 := by unfold insC wfiC; rw [hi, ho, hl, hb0]; rfl
              rw [hr]
              exact rinsn_b0 hS op rd rs1 rs2 imm csr 5 10 2 hi hl (by rw [ho]; decide) (by omega) hb0 (by simp [ho]) w
        · have hr : insC S op rd rs1 rs2 imm csr = kepC S 20 := by unfold insC; rw [hi, ho]; rfl
          rw [hr]
          exact rinsn_63 hS op rd rs1 rs2 imm csr hi ho w
        · rcases lvl_ways S with hl | hl | hl | hl | hl
          · have hr : insC S op rd rs1 rs2 imm csr = 2 := by unfold insC hypC; rw [hi, ho, hl]; rfl
            rw [hr]
            exact rinsn_pl op rd rs1 rs2 imm csr 0 11 2 hi hl (by rw [ho]; decide) (by simp [ho]) w
          · have hr : insC S op rd rs1 rs2 imm csr = 0 := by unfold insC hypC; rw [hi, ho, hl]; rfl
            rw [hr]
            exact rinsn_pl op rd rs1 rs2 imm csr 1 11 0 hi hl (by rw [ho]; decide) (by simp [ho]) w
          · have hr : insC S op rd rs1 rs2 imm csr = 0 := by unfold insC hypC; rw [hi, ho, hl]; rfl
            rw [hr]
            exact rinsn_pl op rd rs1 rs2 imm csr 3 11 0 hi hl (by rw [ho]; decide) (by simp [ho]) w
          · have hr : insC S op rd rs1 rs2 imm csr = 22 := by unfold insC hypC; rw [hi, ho, hl]; rfl
            rw [hr]
            exact rinsn_pl op rd rs1 rs2 imm csr 4 11 22 hi hl (by rw [ho]; decide) (by simp [ho]) w
          · have hr : insC S op rd rs1 rs2 imm csr = 22 := by unfold insC hypC; rw [hi, ho, hl]; rfl
            rw [hr]
            exact rinsn_pl op rd rs1 rs2 imm csr 5 11 22 hi hl (by rw [ho]; decide) (by simp [ho]) w
        · rcases lvl_ways S with hl | hl | hl | hl | hl
          · have hr : insC S op rd rs1 rs2 imm csr = 2 := by unfold insC hypC; rw [hi, ho, hl]; rfl
            rw [hr]
            exact rinsn_pl op rd rs1 rs2 imm csr 0 11 2 hi hl (by rw [ho]; decide) (by simp [ho]) w
          · cases hb0 : bitB (S.C 0) 20
            · have hr : insC S op rd rs1 rs2 imm csr = 0 := by unfold insC hypC; rw [hi, ho, hl, hb0]; rfl
              rw [hr]
              exact rinsn_b0 hS op rd rs1 rs2 imm csr 1 11 0 hi hl (by rw [ho]; decide) (by omega) hb0 (by simp [ho]) w
            · have hr : insC S op rd rs1 rs2 imm csr = 2 := by unfold insC hypC; rw [hi, ho, hl, hb0]; rfl
              rw [hr]
              exact rinsn_b0 hS op rd rs1 rs2 imm csr 1 11 2 hi hl (by rw [ho]; decide) (by omega) hb0 (by simp [ho]) w
          · have hr : insC S op rd rs1 rs2 imm csr = 0 := by unfold insC hypC; rw [hi, ho, hl]; rfl
            rw [hr]
            exact rinsn_pl op rd rs1 rs2 imm csr 3 11 0 hi hl (by rw [ho]; decide) (by simp [ho]) w
          · have hr : insC S op rd rs1 rs2 imm csr = 22 := by unfold insC hypC; rw [hi, ho, hl]; rfl
            rw [hr]
            exact rinsn_pl op rd rs1 rs2 imm csr 4 11 22 hi hl (by rw [ho]; decide) (by simp [ho]) w
          · have hr : insC S op rd rs1 rs2 imm csr = 22 := by unfold insC hypC; rw [hi, ho, hl]; rfl
            rw [hr]
            exact rinsn_pl op rd rs1 rs2 imm csr 5 11 22 hi hl (by rw [ho]; decide) (by simp [ho]) w
        · rcases lvl_ways S with hl | hl | hl | hl | hl
          · cases hb0 : bitB (S.C 16) 9
            · have hr : insC S op rd rs1 rs2 imm csr = 2 := by unfold insC hypC; rw [hi, ho, hl, hb0]; rfl
              rw [hr]
              exact rinsn_b16 hS op rd rs1 rs2 imm csr 0 12 2 hi hl (by rw [ho]; decide) (by omega) hb0 (by simp [ho]) w
            · have hr : insC S op rd rs1 rs2 imm csr = 0 := by unfold insC hypC; rw [hi, ho, hl, hb0]; rfl
              rw [hr]
              exact rinsn_b16 hS op rd rs1 rs2 imm csr 0 12 0 hi hl (by rw [ho]; decide) (by omega) hb0 (by simp [ho]) w
          · have hr : insC S op rd rs1 rs2 imm csr = 0 := by unfold insC hypC; rw [hi, ho, hl]; rfl
            rw [hr]
            exact rinsn_pl op rd rs1 rs2 imm csr 1 12 0 hi hl (by rw [ho]; decide) (by simp [ho]) w
          · have hr : insC S op rd rs1 rs2 imm csr = 0 := by unfold insC hypC; rw [hi, ho, hl]; rfl
            rw [hr]
            exact rinsn_pl op rd rs1 rs2 imm csr 3 12 0 hi hl (by rw [ho]; decide) (by simp [ho]) w
          · have hr : insC S op rd rs1 rs2 imm csr = 22 := by unfold insC hypC; rw [hi, ho, hl]; rfl
            rw [hr]
            exact rinsn_pl op rd rs1 rs2 imm csr 4 12 22 hi hl (by rw [ho]; decide) (by simp [ho]) w
          · have hr : insC S op rd rs1 rs2 imm csr = 22 := by unfold insC hypC; rw [hi, ho, hl]; rfl
            rw [hr]
            exact rinsn_pl op rd rs1 rs2 imm csr 5 12 22 hi hl (by rw [ho]; decide) (by simp [ho]) w
        · rcases lvl_ways S with hl | hl | hl | hl | hl
          · cases hb0 : bitB (S.C 16) 9
            · have hr : insC S op rd rs1 rs2 imm csr = 2 := by unfold insC hypC; rw [hi, ho, hl, hb0]; rfl
              rw [hr]
              exact rinsn_b16 hS op rd rs1 rs2 imm csr 0 12 2 hi hl (by rw [ho]; decide) (by omega) hb0 (by simp [ho]) w
            · have hr : insC S op rd rs1 rs2 imm csr = 0 := by unfold insC hypC; rw [hi, ho, hl, hb0]; rfl
              rw [hr]
              exact rinsn_b16 hS op rd rs1 rs2 imm csr 0 12 0 hi hl (by rw [ho]; decide) (by omega) hb0 (by simp [ho]) w
          · have hr : insC S op rd rs1 rs2 imm csr = 0 := by unfold insC hypC; rw [hi, ho, hl]; rfl
            rw [hr]
            exact rinsn_pl op rd rs1 rs2 imm csr 1 12 0 hi hl (by rw [ho]; decide) (by simp [ho]) w
          · have hr : insC S op rd rs1 rs2 imm csr = 0 := by unfold insC hypC; rw [hi, ho, hl]; rfl
            rw [hr]
            exact rinsn_pl op rd rs1 rs2 imm csr 3 12 0 hi hl (by rw [ho]; decide) (by simp [ho]) w
          · have hr : insC S op rd rs1 rs2 imm csr = 22 := by unfold insC hypC; rw [hi, ho, hl]; rfl
            rw [hr]
            exact rinsn_pl op rd rs1 rs2 imm csr 4 12 22 hi hl (by rw [ho]; decide) (by simp [ho]) w
          · have hr : insC S op rd rs1 rs2 imm csr = 22 := by unfold insC hypC; rw [hi, ho, hl]; rfl
            rw [hr]
            exact rinsn_pl op rd rs1 rs2 imm csr 5 12 22 hi hl (by rw [ho]; decide) (by simp [ho]) w
        · rcases lvl_ways S with hl | hl | hl | hl | hl
          · cases hb0 : bitB (S.C 16) 9
            · have hr : insC S op rd rs1 rs2 imm csr = 2 := by unfold insC hypC; rw [hi, ho, hl, hb0]; rfl
              rw [hr]
              exact rinsn_b16 hS op rd rs1 rs2 imm csr 0 12 2 hi hl (by rw [ho]; decide) (by omega) hb0 (by simp [ho]) w
            · have hr : insC S op rd rs1 rs2 imm csr = 0 := by unfold insC hypC; rw [hi, ho, hl, hb0]; rfl
              rw [hr]
              exact rinsn_b16 hS op rd rs1 rs2 imm csr 0 12 0 hi hl (by rw [ho]; decide) (by omega) hb0 (by simp [ho]) w
          · have hr : insC S op rd rs1 rs2 imm csr = 0 := by unfold insC hypC; rw [hi, ho, hl]; rfl
            rw [hr]
            exact rinsn_pl op rd rs1 rs2 imm csr 1 12 0 hi hl (by rw [ho]; decide) (by simp [ho]) w
          · have hr : insC S op rd rs1 rs2 imm csr = 0 := by unfold insC hypC; rw [hi, ho, hl]; rfl
            rw [hr]
            exact rinsn_pl op rd rs1 rs2 imm csr 3 12 0 hi hl (by rw [ho]; decide) (by simp [ho]) w
          · have hr : insC S op rd rs1 rs2 imm csr = 22 := by unfold insC hypC; rw [hi, ho, hl]; rfl
            rw [hr]
            exact rinsn_pl op rd rs1 rs2 imm csr 4 12 22 hi hl (by rw [ho]; decide) (by simp [ho]) w
          · have hr : insC S op rd rs1 rs2 imm csr = 22 := by unfold insC hypC; rw [hi, ho, hl]; rfl
            rw [hr]
            exact rinsn_pl op rd rs1 rs2 imm csr 5 12 22 hi hl (by rw [ho]; decide) (by simp [ho]) w
        · rcases lvl_ways S with hl | hl | hl | hl | hl
          · cases hb0 : bitB (S.C 16) 9
            · have hr : insC S op rd rs1 rs2 imm csr = 2 := by unfold insC hypC; rw [hi, ho, hl, hb0]; rfl
              rw [hr]
              exact rinsn_b16 hS op rd rs1 rs2 imm csr 0 12 2 hi hl (by rw [ho]; decide) (by omega) hb0 (by simp [ho]) w
            · have hr : insC S op rd rs1 rs2 imm csr = 0 := by unfold insC hypC; rw [hi, ho, hl, hb0]; rfl
              rw [hr]
              exact rinsn_b16 hS op rd rs1 rs2 imm csr 0 12 0 hi hl (by rw [ho]; decide) (by omega) hb0 (by simp [ho]) w
          · have hr : insC S op rd rs1 rs2 imm csr = 0 := by unfold insC hypC; rw [hi, ho, hl]; rfl
            rw [hr]
            exact rinsn_pl op rd rs1 rs2 imm csr 1 12 0 hi hl (by rw [ho]; decide) (by simp [ho]) w
          · have hr : insC S op rd rs1 rs2 imm csr = 0 := by unfold insC hypC; rw [hi, ho, hl]; rfl
            rw [hr]
            exact rinsn_pl op rd rs1 rs2 imm csr 3 12 0 hi hl (by rw [ho]; decide) (by simp [ho]) w
          · have hr : insC S op rd rs1 rs2 imm csr = 22 := by unfold insC hypC; rw [hi, ho, hl]; rfl
            rw [hr]
            exact rinsn_pl op rd rs1 rs2 imm csr 4 12 22 hi hl (by rw [ho]; decide) (by simp [ho]) w
          · have hr : insC S op rd rs1 rs2 imm csr = 22 := by unfold insC hypC; rw [hi, ho, hl]; rfl
            rw [hr]
            exact rinsn_pl op rd rs1 rs2 imm csr 5 12 22 hi hl (by rw [ho]; decide) (by simp [ho]) w
end Go.Proofs.YthmanpfooegbcaaDoor
