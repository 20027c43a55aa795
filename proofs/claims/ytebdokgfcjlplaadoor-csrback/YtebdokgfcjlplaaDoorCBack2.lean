/-
  What statement CsrBack asks, one case of it: walked for every argument.
-/
import Derived.Test.YtebdokgfcjlplaaDoorCBase
namespace Go.Proofs.YtebdokgfcjlplaaDoor
open Go.RowKit
set_option maxRecDepth 100000 in
set_option maxHeartbeats 4000000 in
theorem cback_2 (S : StM) (hS : S.Ok) (x v n : Int) (k : Nat) (hk : k < 29) (x0 : 0 ≤ x) (x1 : x ≤ 255) (hx : x % 29 = k) (hn : numI (k : Int) = n) (hv : U v) (want : Int) (hwr : wrS S n v = S.setC k want) (hok : okC n = true) (hrd : rdC (S.setC k want) n = want) (hix : idxI n = k)
    (hU : U want) (w0 : Int) (hp : putI (S.C k) v (maskI (k : Int)) = w0) (h0 : ((k : Int) == 0) = true) (hc : (bits .and .u64 (w0 / 2048) 3 == 2) = true) (hm : bits .andNot .u64 w0 6144 = want) {W : World} (hT : Tab8 W) :
    Calls Tryd.prog 4 #[.agg (rowOf 65 (stF S)), .int .u8 x, .int .u64 v] W fun e w' => e = .returned (.bool true) ∧ Kept W w' := by
  have hwx : IntKind.i64.wrap x = x := by rw [IntKind.wrap_i64]; omega
  have heq := eq_state (hS.setC k hU)
  have hrs := row_set S hk want
  have hp' : bits .or .u64 (bits .andNot .u64 (S.C k) (maskI (k : Int))) (bits .and .u64 v (maskI (k : Int))) = w0 := hp
  have l0 : (0 : Int) ≤ (k : Int) := by omega
  have l1 : (k : Int) < 29 := by omega
  go_enter Tryd.func4, Tryd.ntmps4
  go_wp2_with fail
  refine (known8_any hT ((Only.refl _ W).alloc _)).mono ?_
  rintro e w1 ⟨rfl, g1⟩
  have k1 := kept_boxed g1
  have h1 := (st_new W S).kept g1
  have k1d := k1.drew
  have h1d : StAt w1.drew W.heap.size S := h1
  go_wp2
  refine wp_region_held_drew (S := fun w2 => Kept w1.drew w2) (by kernel_rfl) (Only.refl _ _) (fun hHeld => ?_)
  refine wpAnyH_take (i := 0) (v := .agg (rowOf 65 (stF S))) rfl (by kernel_rfl) (by kernel_rfl) (by kernel_rfl) (fun _ _ _ h => h) (Or.inl ⟨by rfl, ?_⟩) hHeld ?_
  · intro w2 hSw
    exact exec_load rfl rfl (load_state (h1d.kept hSw))
  simp only [Act.put, List.getElem_toArray, List.getElem_cons_zero, List.setIfInBounds_toArray, List.set_cons_zero, List.set_cons_succ]
  refine wpAnyH_take (i := 1) (v := ?_) rfl (by kernel_rfl) (by kernel_rfl) (by kernel_rfl) (fun _ _ _ h => h) (Or.inl ⟨by rfl, ?_⟩) hHeld ?_
  rotate_left
  · intro w2 hSw
    go_simp
    all_goals rfl
  simp only [Act.put, List.getElem_toArray, List.getElem_cons_zero, List.getElem_cons_succ, List.setIfInBounds_toArray, List.set_cons_zero, List.set_cons_succ]
  refine wpAnyH_take (i := 3) (v := ?_) rfl (by kernel_rfl) (by kernel_rfl) (by kernel_rfl) (fun _ _ _ h => h) (Or.inl ⟨by rfl, ?_⟩) hHeld ?_
  rotate_left
  · intro w2 hSw
    go_simp
    all_goals rfl
  simp only [Act.put, List.getElem_toArray, List.getElem_cons_zero, List.getElem_cons_succ, List.setIfInBounds_toArray, List.set_cons_zero, List.set_cons_succ]
  refine wpAnyH_ready (rs := [2, 8]) (by kernel_rfl) (by simp) ?_
  refine AllReadyH.cons rfl (fun K hK => ?_) ?_
  · go_simp
    refine (cnum_any (hT.kept (k1d.then hHeld)) _).mono ?_
    rintro e wa ⟨rfl, gwa⟩
    go_simp
    refine hK.out _ _ (hHeld.then gwa) (fun hHeld => ?_)
    clear hK K
    try simp only [Act.put, List.setIfInBounds_toArray, List.set_cons_zero, List.set_cons_succ]
    refine wpAnyH_ready (rs := [4, 8]) (by kernel_rfl) (by simp) ?_
    refine AllReadyH.cons rfl (fun K hK => ?_) ?_
    · go_simp
      refine (cwrite_any (hT.kept (k1d.then hHeld)) hS _ _ hv).mono ?_
      rintro e wb ⟨rfl, gwb⟩
      go_simp
      refine hK.out _ _ (hHeld.then gwb) (fun hHeld => ?_)
      clear hK K
      try simp only [Act.put, List.setIfInBounds_toArray, List.set_cons_zero, List.set_cons_succ]
      refine wpAnyH_take (i := 5) (v := ?_) rfl (by kernel_rfl) (by kernel_rfl) (by kernel_rfl) (fun _ _ _ h => h) (Or.inl ⟨by rfl, ?_⟩) hHeld ?_
      rotate_left
      · intro w2 hSw
        go_simp
        all_goals rfl
      simp only [Act.put, List.getElem_toArray, List.getElem_cons_zero, List.getElem_cons_succ, List.setIfInBounds_toArray, List.set_cons_zero, List.set_cons_succ]
      refine wpAnyH_take (i := 6) (v := ?_) rfl (by kernel_rfl) (by kernel_rfl) (by kernel_rfl) (fun _ _ _ h => h) (Or.inl ⟨by rfl, ?_⟩) hHeld ?_
      rotate_left
      · intro w2 hSw
        go_simp
        all_goals rfl
      simp only [Act.put, List.getElem_toArray, List.getElem_cons_zero, List.getElem_cons_succ, List.setIfInBounds_toArray, List.set_cons_zero, List.set_cons_succ]
      refine wpAnyH_take (i := 7) (v := ?_) rfl (by kernel_rfl) (by kernel_rfl) (by kernel_rfl) (fun _ _ _ h => h) (Or.inl ⟨by rfl, ?_⟩) hHeld ?_
      rotate_left
      · intro w2 hSw
        go_simp
        all_goals rfl
      simp only [Act.put, List.getElem_toArray, List.getElem_cons_zero, List.getElem_cons_succ, List.setIfInBounds_toArray, List.set_cons_zero, List.set_cons_succ]
      refine wpAnyH_ready (rs := [8]) (by kernel_rfl) (by simp) ?_
      refine AllReadyH.cons rfl (fun K hK => ?_) AllReadyH.nil
      rw [if_pos (by rfl)]
      refine wp_of_exec (exec_alloc rfl st_zero) ?_
      have hR0 := row_alloc wb 65 zF 26
      have hL0 : w1.heap.size ≤ wb.heap.size := hHeld.size
      refine hK.out _ _ (hHeld.alloc _) (fun hHeld => ?_)
      clear hK K
      simp only [Act.put, List.setIfInBounds_toArray]
      refine wpAnyH_ready (rs := [9]) (by kernel_rfl) (by simp) ?_
      refine AllReadyH.cons rfl (fun K hK => ?_) AllReadyH.nil
      rw [if_pos (by rfl)]
      have hR9 := hR0
      refine wp_of_skip (exec_store rfl rfl rfl hR9 st_size (fun i _ => stF_one _ i)) ?_
      have hR := row_stored hR9 (stF (S.setC k want))
      have hH9 := hHeld.new ((Only.refl (fun j => j = _) _).setRow (g := _) rfl (rowOf 65 (stF (S.setC k want)))) (fun j hj => by rw [hj]; exact hL0)
      refine hK.out _ _ hH9 (fun hHeld => ?_)
      clear hK K
      simp only [Act.put]
      refine wpAnyH_take (i := 10) (v := ?_) rfl (by kernel_rfl) (by kernel_rfl) (by kernel_rfl) (fun _ _ _ h => h) (Or.inl ⟨by rfl, ?_⟩) hHeld ?_
      rotate_left
      · intro w2 hSw
        go_simp
        all_goals rfl
      simp only [Act.put, List.getElem_toArray, List.getElem_cons_zero, List.getElem_cons_succ, List.setIfInBounds_toArray, List.set_cons_zero, List.set_cons_succ]
      refine wpAnyH_done (by kernel_rfl) ?_ _
      have k2d := (k1d.then hHeld).drew
      have h2d := (h1d.kept hHeld).kept ((Only.refl _ _).drew)
      have hRd := StAt.kept hR ((Only.refl _ _).drew)
      clear hHeld
      go_wp2
      refine wp_region_held_drew (S := fun w3 => Kept _ w3) (by kernel_rfl) (Only.refl _ _) (fun hHeld => ?_)
      refine wpAnyH_take (i := 0) (v := .agg (rowOf 65 (stF (S.setC k want)))) rfl (by kernel_rfl) (by kernel_rfl) (by kernel_rfl) (fun _ _ _ h => h) (Or.inl ⟨by rfl, ?_⟩) hHeld ?_
      · intro w2 hSw
        exact exec_load rfl rfl (load_state (hRd.kept hSw))
      simp only [Act.put, List.getElem_toArray, List.getElem_cons_zero, List.setIfInBounds_toArray, List.set_cons_zero, List.set_cons_succ]
      refine wpAnyH_take (i := 1) (v := ?_) rfl (by kernel_rfl) (by kernel_rfl) (by kernel_rfl) (fun _ _ _ h => h) (Or.inl ⟨by rfl, ?_⟩) hHeld ?_
      rotate_left
      · intro w2 hSw
        go_simp
        all_goals rfl
      simp only [Act.put, List.getElem_toArray, List.getElem_cons_zero, List.getElem_cons_succ, List.setIfInBounds_toArray, List.set_cons_zero, List.set_cons_succ]
      refine wpAnyH_ready (rs := [2]) (by kernel_rfl) (by simp) ?_
      refine AllReadyH.cons rfl (fun K hK => ?_) AllReadyH.nil
      go_simp
      refine (cnum_any (hT.kept (k2d.then hHeld)) _).mono ?_
      rintro e wc ⟨rfl, gwc⟩
      go_simp
      refine hK.out _ _ (hHeld.then gwc) (fun hHeld => ?_)
      clear hK K
      try simp only [Act.put, List.setIfInBounds_toArray, List.set_cons_zero, List.set_cons_succ]
      refine wpAnyH_ready (rs := [3]) (by kernel_rfl) (by simp) ?_
      refine AllReadyH.cons rfl (fun K hK => ?_) AllReadyH.nil
      go_simp
      refine (cread_any (hT.kept (k2d.then hHeld)) (hS.setC k hU) _).mono ?_
      rintro e wd ⟨rfl, gwd⟩
      go_simp
      refine hK.out _ _ (hHeld.then gwd) (fun hHeld => ?_)
      clear hK K
      try simp only [Act.put, List.setIfInBounds_toArray, List.set_cons_zero, List.set_cons_succ]
      refine wpAnyH_take (i := 4) (v := ?_) rfl (by kernel_rfl) (by kernel_rfl) (by kernel_rfl) (fun _ _ _ h => h) (Or.inl ⟨by rfl, ?_⟩) hHeld ?_
      rotate_left
      · intro w2 hSw
        go_simp
        all_goals rfl
      simp only [Act.put, List.getElem_toArray, List.getElem_cons_zero, List.getElem_cons_succ, List.setIfInBounds_toArray, List.set_cons_zero, List.set_cons_succ]
      refine wpAnyH_take (i := 5) (v := ?_) rfl (by kernel_rfl) (by kernel_rfl) (by kernel_rfl) (fun _ _ _ h => h) (Or.inl ⟨by rfl, ?_⟩) hHeld ?_
      rotate_left
      · intro w2 hSw
        go_simp
        all_goals rfl
      simp only [Act.put, List.getElem_toArray, List.getElem_cons_zero, List.getElem_cons_succ, List.setIfInBounds_toArray, List.set_cons_zero, List.set_cons_succ]
      refine wpAnyH_take (i := 6) (v := ?_) rfl (by kernel_rfl) (by kernel_rfl) (by kernel_rfl) (fun _ _ _ h => h) (Or.inl ⟨by rfl, ?_⟩) hHeld ?_
      rotate_left
      · intro w2 hSw
        go_simp
        all_goals rfl
      simp only [Act.put, List.getElem_toArray, List.getElem_cons_zero, List.getElem_cons_succ, List.setIfInBounds_toArray, List.set_cons_zero, List.set_cons_succ]
      refine wpAnyH_take (i := 7) (v := ?_) rfl (by kernel_rfl) (by kernel_rfl) (by kernel_rfl) (fun _ _ _ h => h) (Or.inl ⟨by rfl, ?_⟩) hHeld ?_
      rotate_left
      · intro w2 hSw
        go_simp
        all_goals rfl
      simp only [Act.put, List.getElem_toArray, List.getElem_cons_zero, List.getElem_cons_succ, List.setIfInBounds_toArray, List.set_cons_zero, List.set_cons_succ]
      refine wpAnyH_take (i := 8) (v := ?_) rfl (by kernel_rfl) (by kernel_rfl) (by kernel_rfl) (fun _ _ _ h => h) (Or.inl ⟨by rfl, ?_⟩) hHeld ?_
      rotate_left
      · intro w2 hSw
        go_simp
        all_goals rfl
      simp only [Act.put, List.getElem_toArray, List.getElem_cons_zero, List.getElem_cons_succ, List.setIfInBounds_toArray, List.set_cons_zero, List.set_cons_succ]
      refine wpAnyH_done (by kernel_rfl) ?_ _
      have k3 := k2d.then hHeld
      have h3 := h2d.kept hHeld
      have r3 := hRd.kept hHeld
      go_wp2_with fail
      refine (cmask_any (hT.kept k3) _).mono ?_
      rintro e w4 ⟨rfl, g4⟩
      have k4 := k3.then g4
      have h4 := h3.kept g4
      have r4 := r3.kept g4
      have c4 := h4.c hk
      have u5 := st_new w4 S
      have cu := u5.c hk
      have fu := World.rowIs.frozen u5 (35 + k)
      have u6 := st_new w4 (S.setC k want)
      have r6 := World.rowIs.alloc r4 (.cells (rowOf 65 (stF (S.setC k want))) 26)
      have k6 : Kept W (w4.alloc (.cells (rowOf 65 (stF (S.setC k want))) 26)) := k4.alloc _
      go_wp2_with first | refine wpList_alloc_is rfl 26 rfl (rowOf 65 zF) st_zero ?_ | (refine wpList_store_is rfl 26 _ _ rfl rfl rfl (row_alloc _ 65 zF _) st_size (fun i _ => stF_one _ i) ?_; rw [World.setRow_alloc_new]) | refine wpList_load_is (by rfl) 26 _ rfl rfl r6 _ Tryd.underlying26 rfl st_size ?_ | refine wpList_load_is (by rfl) 26 _ rfl rfl u6 _ Tryd.underlying26 rfl st_size ?_ | refine wpList_load_is (by rfl) 26 _ rfl rfl h4 _ Tryd.underlying26 rfl st_size ?_
      refine (cnum_any (hT.kept k6) _).mono ?_
      rintro e w7 ⟨rfl, g7⟩
      go_wp2_with fail
      refine (cidx_any (hT.kept (k6.then g7)) _).mono ?_
      rintro e w8 ⟨rfl, g8⟩
      go_wp2
      go_ret
      exact ⟨rfl, (k6.then g7).then g8⟩
    refine AllReadyH.cons rfl (fun K hK => ?_) AllReadyH.nil
    rw [if_pos (by rfl)]
    refine wp_of_exec (exec_alloc rfl st_zero) ?_
    have hR0 := row_alloc wa 65 zF 26
    have hL0 : w1.heap.size ≤ wa.heap.size := hHeld.size
    refine hK.out _ _ (hHeld.alloc _) (fun hHeld => ?_)
    clear hK K
    simp only [Act.put, List.setIfInBounds_toArray]
    refine wpAnyH_ready (rs := [4]) (by kernel_rfl) (by simp) ?_
    refine AllReadyH.cons rfl (fun K hK => ?_) AllReadyH.nil
    go_simp
    refine (cwrite_any (hT.kept (k1d.then hHeld)) hS _ _ hv).mono ?_
    rintro e wb ⟨rfl, gwb⟩
    go_simp
    refine hK.out _ _ (hHeld.then gwb) (fun hHeld => ?_)
    clear hK K
    try simp only [Act.put, List.setIfInBounds_toArray, List.set_cons_zero, List.set_cons_succ]
    refine wpAnyH_take (i := 5) (v := ?_) rfl (by kernel_rfl) (by kernel_rfl) (by kernel_rfl) (fun _ _ _ h => h) (Or.inl ⟨by rfl, ?_⟩) hHeld ?_
    rotate_left
    · intro w2 hSw
      go_simp
      all_goals rfl
    simp only [Act.put, List.getElem_toArray, List.getElem_cons_zero, List.getElem_cons_succ, List.setIfInBounds_toArray, List.set_cons_zero, List.set_cons_succ]
    refine wpAnyH_take (i := 6) (v := ?_) rfl (by kernel_rfl) (by kernel_rfl) (by kernel_rfl) (fun _ _ _ h => h) (Or.inl ⟨by rfl, ?_⟩) hHeld ?_
    rotate_left
    · intro w2 hSw
      go_simp
      all_goals rfl
    simp only [Act.put, List.getElem_toArray, List.getElem_cons_zero, List.getElem_cons_succ, List.setIfInBounds_toArray, List.set_cons_zero, List.set_cons_succ]
    refine wpAnyH_take (i := 7) (v := ?_) rfl (by kernel_rfl) (by kernel_rfl) (by kernel_rfl) (fun _ _ _ h => h) (Or.inl ⟨by rfl, ?_⟩) hHeld ?_
    rotate_left
    · intro w2 hSw
      go_simp
      all_goals rfl
    simp only [Act.put, List.getElem_toArray, List.getElem_cons_zero, List.getElem_cons_succ, List.setIfInBounds_toArray, List.set_cons_zero, List.set_cons_succ]
    refine wpAnyH_ready (rs := [9]) (by kernel_rfl) (by simp) ?_
    refine AllReadyH.cons rfl (fun K hK => ?_) AllReadyH.nil
    rw [if_pos (by rfl)]
    have hR9 := hR0.of_block (gwb.same _ hR0.lt id)
    refine wp_of_skip (exec_store rfl rfl rfl hR9 st_size (fun i _ => stF_one _ i)) ?_
    have hR := row_stored hR9 (stF (S.setC k want))
    have hH9 := hHeld.new ((Only.refl (fun j => j = _) _).setRow (g := _) rfl (rowOf 65 (stF (S.setC k want)))) (fun j hj => by rw [hj]; exact hL0)
    refine hK.out _ _ hH9 (fun hHeld => ?_)
    clear hK K
    simp only [Act.put]
    refine wpAnyH_take (i := 10) (v := ?_) rfl (by kernel_rfl) (by kernel_rfl) (by kernel_rfl) (fun _ _ _ h => h) (Or.inl ⟨by rfl, ?_⟩) hHeld ?_
    rotate_left
    · intro w2 hSw
      go_simp
      all_goals rfl
    simp only [Act.put, List.getElem_toArray, List.getElem_cons_zero, List.getElem_cons_succ, List.setIfInBounds_toArray, List.set_cons_zero, List.set_cons_succ]
    refine wpAnyH_done (by kernel_rfl) ?_ _
    have k2d := (k1d.then hHeld).drew
    have h2d := (h1d.kept hHeld).kept ((Only.refl _ _).drew)
    have hRd := StAt.kept hR ((Only.refl _ _).drew)
    clear hHeld
    go_wp2
    refine wp_region_held_drew (S := fun w3 => Kept _ w3) (by kernel_rfl) (Only.refl _ _) (fun hHeld => ?_)
    refine wpAnyH_take (i := 0) (v := .agg (rowOf 65 (stF (S.setC k want)))) rfl (by kernel_rfl) (by kernel_rfl) (by kernel_rfl) (fun _ _ _ h => h) (Or.inl ⟨by rfl, ?_⟩) hHeld ?_
    · intro w2 hSw
      exact exec_load rfl rfl (load_state (hRd.kept hSw))
    simp only [Act.put, List.getElem_toArray, List.getElem_cons_zero, List.setIfInBounds_toArray, List.set_cons_zero, List.set_cons_succ]
    refine wpAnyH_take (i := 1) (v := ?_) rfl (by kernel_rfl) (by kernel_rfl) (by kernel_rfl) (fun _ _ _ h => h) (Or.inl ⟨by rfl, ?_⟩) hHeld ?_
    rotate_left
    · intro w2 hSw
      go_simp
      all_goals rfl
    simp only [Act.put, List.getElem_toArray, List.getElem_cons_zero, List.getElem_cons_succ, List.setIfInBounds_toArray, List.set_cons_zero, List.set_cons_succ]
    refine wpAnyH_ready (rs := [2]) (by kernel_rfl) (by simp) ?_
    refine AllReadyH.cons rfl (fun K hK => ?_) AllReadyH.nil
    go_simp
    refine (cnum_any (hT.kept (k2d.then hHeld)) _).mono ?_
    rintro e wc ⟨rfl, gwc⟩
    go_simp
    refine hK.out _ _ (hHeld.then gwc) (fun hHeld => ?_)
    clear hK K
    try simp only [Act.put, List.setIfInBounds_toArray, List.set_cons_zero, List.set_cons_succ]
    refine wpAnyH_ready (rs := [3]) (by kernel_rfl) (by simp) ?_
    refine AllReadyH.cons rfl (fun K hK => ?_) AllReadyH.nil
    go_simp
    refine (cread_any (hT.kept (k2d.then hHeld)) (hS.setC k hU) _).mono ?_
    rintro e wd ⟨rfl, gwd⟩
    go_simp
    refine hK.out _ _ (hHeld.then gwd) (fun hHeld => ?_)
    clear hK K
    try simp only [Act.put, List.setIfInBounds_toArray, List.set_cons_zero, List.set_cons_succ]
    refine wpAnyH_take (i := 4) (v := ?_) rfl (by kernel_rfl) (by kernel_rfl) (by kernel_rfl) (fun _ _ _ h => h) (Or.inl ⟨by rfl, ?_⟩) hHeld ?_
    rotate_left
    · intro w2 hSw
      go_simp
      all_goals rfl
    simp only [Act.put, List.getElem_toArray, List.getElem_cons_zero, List.getElem_cons_succ, List.setIfInBounds_toArray, List.set_cons_zero, List.set_cons_succ]
    refine wpAnyH_take (i := 5) (v := ?_) rfl (by kernel_rfl) (by kernel_rfl) (by kernel_rfl) (fun _ _ _ h => h) (Or.inl ⟨by rfl, ?_⟩) hHeld ?_
    rotate_left
    · intro w2 hSw
      go_simp
      all_goals rfl
    simp only [Act.put, List.getElem_toArray, List.getElem_cons_zero, List.getElem_cons_succ, List.setIfInBounds_toArray, List.set_cons_zero, List.set_cons_succ]
    refine wpAnyH_take (i := 6) (v := ?_) rfl (by kernel_rfl) (by kernel_rfl) (by kernel_rfl) (fun _ _ _ h => h) (Or.inl ⟨by rfl, ?_⟩) hHeld ?_
    rotate_left
    · intro w2 hSw
      go_simp
      all_goals rfl
    simp only [Act.put, List.getElem_toArray, List.getElem_cons_zero, List.getElem_cons_succ, List.setIfInBounds_toArray, List.set_cons_zero, List.set_cons_succ]
    refine wpAnyH_take (i := 7) (v := ?_) rfl (by kernel_rfl) (by kernel_rfl) (by kernel_rfl) (fun _ _ _ h => h) (Or.inl ⟨by rfl, ?_⟩) hHeld ?_
    rotate_left
    · intro w2 hSw
      go_simp
      all_goals rfl
    simp only [Act.put, List.getElem_toArray, List.getElem_cons_zero, List.getElem_cons_succ, List.setIfInBounds_toArray, List.set_cons_zero, List.set_cons_succ]
    refine wpAnyH_take (i := 8) (v := ?_) rfl (by kernel_rfl) (by kernel_rfl) (by kernel_rfl) (fun _ _ _ h => h) (Or.inl ⟨by rfl, ?_⟩) hHeld ?_
    rotate_left
    · intro w2 hSw
      go_simp
      all_goals rfl
    simp only [Act.put, List.getElem_toArray, List.getElem_cons_zero, List.getElem_cons_succ, List.setIfInBounds_toArray, List.set_cons_zero, List.set_cons_succ]
    refine wpAnyH_done (by kernel_rfl) ?_ _
    have k3 := k2d.then hHeld
    have h3 := h2d.kept hHeld
    have r3 := hRd.kept hHeld
    go_wp2_with fail
    refine (cmask_any (hT.kept k3) _).mono ?_
    rintro e w4 ⟨rfl, g4⟩
    have k4 := k3.then g4
    have h4 := h3.kept g4
    have r4 := r3.kept g4
    have c4 := h4.c hk
    have u5 := st_new w4 S
    have cu := u5.c hk
    have fu := World.rowIs.frozen u5 (35 + k)
    have u6 := st_new w4 (S.setC k want)
    have r6 := World.rowIs.alloc r4 (.cells (rowOf 65 (stF (S.setC k want))) 26)
    have k6 : Kept W (w4.alloc (.cells (rowOf 65 (stF (S.setC k want))) 26)) := k4.alloc _
    go_wp2_with first | refine wpList_alloc_is rfl 26 rfl (rowOf 65 zF) st_zero ?_ | (refine wpList_store_is rfl 26 _ _ rfl rfl rfl (row_alloc _ 65 zF _) st_size (fun i _ => stF_one _ i) ?_; rw [World.setRow_alloc_new]) | refine wpList_load_is (by rfl) 26 _ rfl rfl r6 _ Tryd.underlying26 rfl st_size ?_ | refine wpList_load_is (by rfl) 26 _ rfl rfl u6 _ Tryd.underlying26 rfl st_size ?_ | refine wpList_load_is (by rfl) 26 _ rfl rfl h4 _ Tryd.underlying26 rfl st_size ?_
    refine (cnum_any (hT.kept k6) _).mono ?_
    rintro e w7 ⟨rfl, g7⟩
    go_wp2_with fail
    refine (cidx_any (hT.kept (k6.then g7)) _).mono ?_
    rintro e w8 ⟨rfl, g8⟩
    go_wp2
    go_ret
    exact ⟨rfl, (k6.then g7).then g8⟩
  refine AllReadyH.cons rfl (fun K hK => ?_) AllReadyH.nil
  rw [if_pos (by rfl)]
  refine wp_of_exec (exec_alloc rfl st_zero) ?_
  have hR0 := row_alloc w1.drew 65 zF 26
  have hL0 : w1.heap.size ≤ w1.drew.heap.size := hHeld.size
  refine hK.out _ _ (hHeld.alloc _) (fun hHeld => ?_)
  clear hK K
  simp only [Act.put, List.setIfInBounds_toArray]
  refine wpAnyH_ready (rs := [2]) (by kernel_rfl) (by simp) ?_
  refine AllReadyH.cons rfl (fun K hK => ?_) AllReadyH.nil
  go_simp
  refine (cnum_any (hT.kept (k1d.then hHeld)) _).mono ?_
  rintro e wa ⟨rfl, gwa⟩
  go_simp
  refine hK.out _ _ (hHeld.then gwa) (fun hHeld => ?_)
  clear hK K
  try simp only [Act.put, List.setIfInBounds_toArray, List.set_cons_zero, List.set_cons_succ]
  refine wpAnyH_ready (rs := [4]) (by kernel_rfl) (by simp) ?_
  refine AllReadyH.cons rfl (fun K hK => ?_) AllReadyH.nil
  go_simp
  refine (cwrite_any (hT.kept (k1d.then hHeld)) hS _ _ hv).mono ?_
  rintro e wb ⟨rfl, gwb⟩
  go_simp
  refine hK.out _ _ (hHeld.then gwb) (fun hHeld => ?_)
  clear hK K
  try simp only [Act.put, List.setIfInBounds_toArray, List.set_cons_zero, List.set_cons_succ]
  refine wpAnyH_take (i := 5) (v := ?_) rfl (by kernel_rfl) (by kernel_rfl) (by kernel_rfl) (fun _ _ _ h => h) (Or.inl ⟨by rfl, ?_⟩) hHeld ?_
  rotate_left
  · intro w2 hSw
    go_simp
    all_goals rfl
  simp only [Act.put, List.getElem_toArray, List.getElem_cons_zero, List.getElem_cons_succ, List.setIfInBounds_toArray, List.set_cons_zero, List.set_cons_succ]
  refine wpAnyH_take (i := 6) (v := ?_) rfl (by kernel_rfl) (by kernel_rfl) (by kernel_rfl) (fun _ _ _ h => h) (Or.inl ⟨by rfl, ?_⟩) hHeld ?_
  rotate_left
  · intro w2 hSw
    go_simp
    all_goals rfl
  simp only [Act.put, List.getElem_toArray, List.getElem_cons_zero, List.getElem_cons_succ, List.setIfInBounds_toArray, List.set_cons_zero, List.set_cons_succ]
  refine wpAnyH_take (i := 7) (v := ?_) rfl (by kernel_rfl) (by kernel_rfl) (by kernel_rfl) (fun _ _ _ h => h) (Or.inl ⟨by rfl, ?_⟩) hHeld ?_
  rotate_left
  · intro w2 hSw
    go_simp
    all_goals rfl
  simp only [Act.put, List.getElem_toArray, List.getElem_cons_zero, List.getElem_cons_succ, List.setIfInBounds_toArray, List.set_cons_zero, List.set_cons_succ]
  refine wpAnyH_ready (rs := [9]) (by kernel_rfl) (by simp) ?_
  refine AllReadyH.cons rfl (fun K hK => ?_) AllReadyH.nil
  rw [if_pos (by rfl)]
  have hR9 := (hR0.of_block (gwa.same _ hR0.lt id)).of_block (gwb.same _ (World.rowIs.lt (hR0.of_block (gwa.same _ hR0.lt id))) id)
  refine wp_of_skip (exec_store rfl rfl rfl hR9 st_size (fun i _ => stF_one _ i)) ?_
  have hR := row_stored hR9 (stF (S.setC k want))
  have hH9 := hHeld.new ((Only.refl (fun j => j = _) _).setRow (g := _) rfl (rowOf 65 (stF (S.setC k want)))) (fun j hj => by rw [hj]; exact hL0)
  refine hK.out _ _ hH9 (fun hHeld => ?_)
  clear hK K
  simp only [Act.put]
  refine wpAnyH_take (i := 10) (v := ?_) rfl (by kernel_rfl) (by kernel_rfl) (by kernel_rfl) (fun _ _ _ h => h) (Or.inl ⟨by rfl, ?_⟩) hHeld ?_
  rotate_left
  · intro w2 hSw
    go_simp
    all_goals rfl
  simp only [Act.put, List.getElem_toArray, List.getElem_cons_zero, List.getElem_cons_succ, List.setIfInBounds_toArray, List.set_cons_zero, List.set_cons_succ]
  refine wpAnyH_done (by kernel_rfl) ?_ _
  have k2d := (k1d.then hHeld).drew
  have h2d := (h1d.kept hHeld).kept ((Only.refl _ _).drew)
  have hRd := StAt.kept hR ((Only.refl _ _).drew)
  clear hHeld
  go_wp2
  refine wp_region_held_drew (S := fun w3 => Kept _ w3) (by kernel_rfl) (Only.refl _ _) (fun hHeld => ?_)
  refine wpAnyH_take (i := 0) (v := .agg (rowOf 65 (stF (S.setC k want)))) rfl (by kernel_rfl) (by kernel_rfl) (by kernel_rfl) (fun _ _ _ h => h) (Or.inl ⟨by rfl, ?_⟩) hHeld ?_
  · intro w2 hSw
    exact exec_load rfl rfl (load_state (hRd.kept hSw))
  simp only [Act.put, List.getElem_toArray, List.getElem_cons_zero, List.setIfInBounds_toArray, List.set_cons_zero, List.set_cons_succ]
  refine wpAnyH_take (i := 1) (v := ?_) rfl (by kernel_rfl) (by kernel_rfl) (by kernel_rfl) (fun _ _ _ h => h) (Or.inl ⟨by rfl, ?_⟩) hHeld ?_
  rotate_left
  · intro w2 hSw
    go_simp
    all_goals rfl
  simp only [Act.put, List.getElem_toArray, List.getElem_cons_zero, List.getElem_cons_succ, List.setIfInBounds_toArray, List.set_cons_zero, List.set_cons_succ]
  refine wpAnyH_ready (rs := [2]) (by kernel_rfl) (by simp) ?_
  refine AllReadyH.cons rfl (fun K hK => ?_) AllReadyH.nil
  go_simp
  refine (cnum_any (hT.kept (k2d.then hHeld)) _).mono ?_
  rintro e wc ⟨rfl, gwc⟩
  go_simp
  refine hK.out _ _ (hHeld.then gwc) (fun hHeld => ?_)
  clear hK K
  try simp only [Act.put, List.setIfInBounds_toArray, List.set_cons_zero, List.set_cons_succ]
  refine wpAnyH_ready (rs := [3]) (by kernel_rfl) (by simp) ?_
  refine AllReadyH.cons rfl (fun K hK => ?_) AllReadyH.nil
  go_simp
  refine (cread_any (hT.kept (k2d.then hHeld)) (hS.setC k hU) _).mono ?_
  rintro e wd ⟨rfl, gwd⟩
  go_simp
  refine hK.out _ _ (hHeld.then gwd) (fun hHeld => ?_)
  clear hK K
  try simp only [Act.put, List.setIfInBounds_toArray, List.set_cons_zero, List.set_cons_succ]
  refine wpAnyH_take (i := 4) (v := ?_) rfl (by kernel_rfl) (by kernel_rfl) (by kernel_rfl) (fun _ _ _ h => h) (Or.inl ⟨by rfl, ?_⟩) hHeld ?_
  rotate_left
  · intro w2 hSw
    go_simp
    all_goals rfl
  simp only [Act.put, List.getElem_toArray, List.getElem_cons_zero, List.getElem_cons_succ, List.setIfInBounds_toArray, List.set_cons_zero, List.set_cons_succ]
  refine wpAnyH_take (i := 5) (v := ?_) rfl (by kernel_rfl) (by kernel_rfl) (by kernel_rfl) (fun _ _ _ h => h) (Or.inl ⟨by rfl, ?_⟩) hHeld ?_
  rotate_left
  · intro w2 hSw
    go_simp
    all_goals rfl
  simp only [Act.put, List.getElem_toArray, List.getElem_cons_zero, List.getElem_cons_succ, List.setIfInBounds_toArray, List.set_cons_zero, List.set_cons_succ]
  refine wpAnyH_take (i := 6) (v := ?_) rfl (by kernel_rfl) (by kernel_rfl) (by kernel_rfl) (fun _ _ _ h => h) (Or.inl ⟨by rfl, ?_⟩) hHeld ?_
  rotate_left
  · intro w2 hSw
    go_simp
    all_goals rfl
  simp only [Act.put, List.getElem_toArray, List.getElem_cons_zero, List.getElem_cons_succ, List.setIfInBounds_toArray, List.set_cons_zero, List.set_cons_succ]
  refine wpAnyH_take (i := 7) (v := ?_) rfl (by kernel_rfl) (by kernel_rfl) (by kernel_rfl) (fun _ _ _ h => h) (Or.inl ⟨by rfl, ?_⟩) hHeld ?_
  rotate_left
  · intro w2 hSw
    go_simp
    all_goals rfl
  simp only [Act.put, List.getElem_toArray, List.getElem_cons_zero, List.getElem_cons_succ, List.setIfInBounds_toArray, List.set_cons_zero, List.set_cons_succ]
  refine wpAnyH_take (i := 8) (v := ?_) rfl (by kernel_rfl) (by kernel_rfl) (by kernel_rfl) (fun _ _ _ h => h) (Or.inl ⟨by rfl, ?_⟩) hHeld ?_
  rotate_left
  · intro w2 hSw
    go_simp
    all_goals rfl
  simp only [Act.put, List.getElem_toArray, List.getElem_cons_zero, List.getElem_cons_succ, List.setIfInBounds_toArray, List.set_cons_zero, List.set_cons_succ]
  refine wpAnyH_done (by kernel_rfl) ?_ _
  have k3 := k2d.then hHeld
  have h3 := h2d.kept hHeld
  have r3 := hRd.kept hHeld
  go_wp2_with fail
  refine (cmask_any (hT.kept k3) _).mono ?_
  rintro e w4 ⟨rfl, g4⟩
  have k4 := k3.then g4
  have h4 := h3.kept g4
  have r4 := r3.kept g4
  have c4 := h4.c hk
  have u5 := st_new w4 S
  have cu := u5.c hk
  have fu := World.rowIs.frozen u5 (35 + k)
  have u6 := st_new w4 (S.setC k want)
  have r6 := World.rowIs.alloc r4 (.cells (rowOf 65 (stF (S.setC k want))) 26)
  have k6 : Kept W (w4.alloc (.cells (rowOf 65 (stF (S.setC k want))) 26)) := k4.alloc _
  go_wp2_with first | refine wpList_alloc_is rfl 26 rfl (rowOf 65 zF) st_zero ?_ | (refine wpList_store_is rfl 26 _ _ rfl rfl rfl (row_alloc _ 65 zF _) st_size (fun i _ => stF_one _ i) ?_; rw [World.setRow_alloc_new]) | refine wpList_load_is (by rfl) 26 _ rfl rfl r6 _ Tryd.underlying26 rfl st_size ?_ | refine wpList_load_is (by rfl) 26 _ rfl rfl u6 _ Tryd.underlying26 rfl st_size ?_ | refine wpList_load_is (by rfl) 26 _ rfl rfl h4 _ Tryd.underlying26 rfl st_size ?_
  refine (cnum_any (hT.kept k6) _).mono ?_
  rintro e w7 ⟨rfl, g7⟩
  go_wp2_with fail
  refine (cidx_any (hT.kept (k6.then g7)) _).mono ?_
  rintro e w8 ⟨rfl, g8⟩
  go_wp2
  go_ret
  exact ⟨rfl, (k6.then g7).then g8⟩
end Go.Proofs.YtebdokgfcjlplaaDoor
