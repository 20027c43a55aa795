/-
  Two rows of entries that hold the same, as the statements' own call compares them.
-/
import Derived.Test.YtpfblbleendpiaaDoorRefTl5
namespace Go.Proofs.YtpfblbleendpiaaDoor
open Go.RowKit
/-- A row of entries, read. -/
structure RowE (w : World) (v : Value) (L : List EntM) : Prop where
  form : ∃ q cap, v = .slice q L.length cap
  at_ : ∀ q cap, v = .slice q L.length cap → ∀ i (h : i < L.length), ∃ g, q = some ⟨g, 0, none⟩ ∧ w.rangeAt g (i * 9) (entA L[i])
theorem OwnE.row {base : Nat} {w : World} {v : Value} {L : List EntM} (h : OwnE base w v L) : RowE w v L := by
  refine ⟨h.form, fun q cap hv i hi => ?_⟩
  obtain ⟨g, cap', e, _, hr⟩ := h.range i hi
  rw [hv] at e
  obtain ⟨rfl, _⟩ : q = some ⟨g, 0, none⟩ ∧ cap = cap' := by simpa using e
  exact ⟨g, rfl, hr⟩
theorem range_kept {w w' : World} {g o : Nat} {cs : List Value} (h : w.rangeAt g o cs) (k : Kept w w') : w'.rangeAt g o cs := fun j v hj => k.cell (h j v hj)
theorem ne_self9 (e : EntM) (w : World) : (binOp .neq 47 (.agg (entA e).toArray) (.agg (entA e).toArray)).run Tryd.prog w = Result.ok (.bool false) w := by
  unfold entA
  simp [go_sem]
theorem ne_guard9 (e f : EntM) (x y : Operand) (w : World) : (eqGuard .neq 47 x y (.agg (entA e).toArray) (.agg (entA f).toArray)).run Tryd.prog w = .ok () w := by
  unfold eqGuard
  simp [go_sem]
theorem exec_neE {o : Oper} {ev : Operand → Value} {u : TypeId} {x y : Operand} {e : EntM} {w : World} (ho : o.op = .binOp .neq 47 x y u) (hx : ev x = .agg (entA e).toArray) (hy : ev y = .agg (entA e).toArray) :
    (execOp ev o).run Tryd.prog w = .ok (.value (.bool false)) w := by
  unfold execOp
  simp only [ho, hx, hy, Sem.run_bind, ne_guard9, ne_self9, Result.andThen_ok, Sem.run_pure]
set_option maxRecDepth 10000 in
set_option maxHeartbeats 4000000 in
theorem same14_any {w : World} {x y : Value} {L : List EntM} (hL : L.length < 1000) (hx : RowE w x L) (hy : RowE w y L) :
    Calls Tryd.prog 14 #[x, y] w fun e w' => e = .returned (.bool true) ∧ Kept w w' := by
  obtain ⟨qx, cx, rfl⟩ := hx.form
  obtain ⟨qy, cy, rfl⟩ := hy.form
  have hX := hx.at_ _ _ rfl
  have hY := hy.at_ _ _ rfl
  clear hx hy
  go_enter Tryd.func14, Tryd.ntmps14
  go_wp2_with fail
  go_loopw [5] (fun i wr => ∃ j : Nat, j ≤ L.length ∧ i = .int .i64 (j : Int) ∧ Kept w wr) (fun i _ => L.length - (intOf i).toNat)
  case atStart => exact ⟨0, by omega, rfl, Only.refl _ _⟩
  case round =>
    obtain ⟨j, hj, rfl, hg⟩ := hrel
    by_cases hlt : j < L.length
    · obtain ⟨gx, rfl, rx⟩ := hX j hlt
      obtain ⟨gy, rfl, ry⟩ := hY j hlt
      have hlt' : (j : Int) < (L.length : Int) := by omega
      have hj9 : (j : Int) < 1000 := by omega
      have hj0 : (0 : Int) ≤ (j : Int) := by omega
      have hkeep : j < L.length ∧ (j : Int) < 1000 := ⟨hlt, by omega⟩
      generalize L[j] = e at rx ry
      have rx9 := range_kept rx hg
      have ry9 := range_kept ry hg
      clear hX hY rx ry
      go_upto_region 6 with fail
      refine wp_region_held_drew (S := fun w2 => Kept wr.drew w2) (by kernel_rfl) (Only.refl _ _) (fun hHeld => ?_)
      refine wpAnyH_take (i := 0) (v := ?_) rfl (by kernel_rfl) (by kernel_rfl) (by kernel_rfl) (fun _ _ _ h => h) (Or.inl ⟨by rfl, ?_⟩) hHeld ?_
      rotate_left
      · intro w2 hSw
        go_simp
        all_goals rfl
      try simp only [Act.put, List.getElem_toArray, List.getElem_cons_zero, List.setIfInBounds_toArray, List.set_cons_zero, List.set_cons_succ]
      refine wpAnyH_take (i := 1) (v := ?_) rfl (by kernel_rfl) (by kernel_rfl) (by kernel_rfl) (fun _ _ _ h => h) (Or.inl ⟨by rfl, ?_⟩) hHeld ?_
      rotate_left
      · intro w2 hSw
        go_simp
        all_goals rfl
      try simp only [Act.put, List.getElem_toArray, List.getElem_cons_zero, List.getElem_cons_succ, List.setIfInBounds_toArray, List.set_cons_zero, List.set_cons_succ]
      refine wpAnyH_take (i := 2) (v := ?_) rfl (by kernel_rfl) (by kernel_rfl) (by kernel_rfl) (fun _ _ _ h => h) (Or.inl ⟨by rfl, ?_⟩) hHeld ?_
      rotate_left
      · intro w2 hSw
        go_simp
        all_goals rfl
      try simp only [Act.put, List.getElem_toArray, List.getElem_cons_zero, List.getElem_cons_succ, List.setIfInBounds_toArray, List.set_cons_zero, List.set_cons_succ]
      refine wpAnyH_take (i := 3) (v := .agg (entA e).toArray) rfl (by kernel_rfl) (by kernel_rfl) (by kernel_rfl) (fun _ _ _ h => h) (Or.inl ⟨by rfl, ?_⟩) hHeld ?_
      · intro w2 hSw
        exact exec_load rfl rfl (run_loadVar_mid w2 gx (j * 9) _ (entA e) _ (range_kept rx9 (((Only.refl _ wr).drew).then hSw)) Tryd.underlying47 rfl (ent_size' _))
      try simp only [Act.put, List.getElem_toArray, List.getElem_cons_zero, List.getElem_cons_succ, List.setIfInBounds_toArray, List.set_cons_zero, List.set_cons_succ]
      refine wpAnyH_take (i := 4) (v := ?_) rfl (by kernel_rfl) (by kernel_rfl) (by kernel_rfl) (fun _ _ _ h => h) (Or.inl ⟨by rfl, ?_⟩) hHeld ?_
      rotate_left
      · intro w2 hSw
        go_simp
        all_goals rfl
      try simp only [Act.put, List.getElem_toArray, List.getElem_cons_zero, List.getElem_cons_succ, List.setIfInBounds_toArray, List.set_cons_zero, List.set_cons_succ]
      refine wpAnyH_take (i := 5) (v := ?_) rfl (by kernel_rfl) (by kernel_rfl) (by kernel_rfl) (fun _ _ _ h => h) (Or.inl ⟨by rfl, ?_⟩) hHeld ?_
      rotate_left
      · intro w2 hSw
        go_simp
        all_goals rfl
      try simp only [Act.put, List.getElem_toArray, List.getElem_cons_zero, List.getElem_cons_succ, List.setIfInBounds_toArray, List.set_cons_zero, List.set_cons_succ]
      refine wpAnyH_take (i := 6) (v := ?_) rfl (by kernel_rfl) (by kernel_rfl) (by kernel_rfl) (fun _ _ _ h => h) (Or.inl ⟨by rfl, ?_⟩) hHeld ?_
      rotate_left
      · intro w2 hSw
        go_simp
        all_goals rfl
      try simp only [Act.put, List.getElem_toArray, List.getElem_cons_zero, List.getElem_cons_succ, List.setIfInBounds_toArray, List.set_cons_zero, List.set_cons_succ]
      refine wpAnyH_take (i := 7) (v := .agg (entA e).toArray) rfl (by kernel_rfl) (by kernel_rfl) (by kernel_rfl) (fun _ _ _ h => h) (Or.inl ⟨by rfl, ?_⟩) hHeld ?_
      · intro w2 hSw
        exact exec_load rfl rfl (run_loadVar_mid w2 gy (j * 9) _ (entA e) _ (range_kept ry9 (((Only.refl _ wr).drew).then hSw)) Tryd.underlying47 rfl (ent_size' _))
      try simp only [Act.put, List.getElem_toArray, List.getElem_cons_zero, List.getElem_cons_succ, List.setIfInBounds_toArray, List.set_cons_zero, List.set_cons_succ]
      refine wpAnyH_take (i := 8) (v := .bool false) rfl (by kernel_rfl) (by kernel_rfl) (by kernel_rfl) (fun _ _ _ h => h) (Or.inl ⟨by rfl, ?_⟩) hHeld ?_
      · intro w2 hSw
        exact exec_neE rfl rfl rfl
      try simp only [Act.put, List.getElem_toArray, List.getElem_cons_zero, List.getElem_cons_succ, List.setIfInBounds_toArray, List.set_cons_zero, List.set_cons_succ]
      refine wpAnyH_done (by kernel_rfl) ?_ _
      have hk2 : j < L.length := hkeep.1
      go_wp2_with fail
      exact ⟨⟨j + 1, by omega, by go_num, hg.then ((Only.refl _ wr).drew)⟩, by simp [intOf]; omega⟩
    · obtain rfl : j = L.length := by omega
      go_wp2_with fail
      go_ret
      exact ⟨rfl, hg⟩
end Go.Proofs.YtpfblbleendpiaaDoor
