/-
  What package bus's Copy does (the landed package's): walked whole, for every argument.
-/
import Derived.Test.YtpnlicklfemjeaaTBus3
namespace Go.Proofs.Ytpnlicklfemjeaa
open Go.RowKit
theorem fold_set (off : Nat) : ∀ (l : List Value) (k : Nat) (cells : Array Value),
    ((l.zipIdx k).foldl (fun (cs : Array Value) (x : Value × Nat) => cs.setIfInBounds (off + x.2) x.1) cells).size = cells.size ∧
    ∀ i, ((l.zipIdx k).foldl (fun (cs : Array Value) (x : Value × Nat) => cs.setIfInBounds (off + x.2) x.1) cells)[i]? = if off + k ≤ i ∧ i < off + k + l.length ∧ i < cells.size then l[i - (off + k)]? else cells[i]?
  | [], k, cells => ⟨rfl, fun i => by rw [if_neg (by simp; omega)]; rfl⟩
  | v :: l, k, cells => by
    obtain ⟨h1, h2⟩ := fold_set off l (k + 1) (cells.setIfInBounds (off + k) v)
    simp only [List.zipIdx_cons, List.foldl_cons]
    refine ⟨by rw [h1]; simp, fun i => ?_⟩
    rw [h2 i, Array.getElem?_setIfInBounds, Array.size_setIfInBounds, List.length_cons]
    by_cases e : i = off + k
    · subst e
      rw [if_neg (by omega), if_pos rfl, Nat.sub_self]
      by_cases hs : off + k < cells.size
      · rw [if_pos hs, if_pos (by omega)]; rfl
      · rw [if_neg hs, if_neg (by omega), Array.getElem?_eq_none (by omega)]
    · rw [if_neg (show ¬ (off + k = i) from fun x => e x.symm)]
      by_cases hin : off + (k + 1) ≤ i ∧ i < off + (k + 1) + l.length ∧ i < cells.size
      · rw [if_pos hin, if_pos (by omega), show i - (off + k) = (i - (off + (k + 1))) + 1 by omega, List.getElem?_cons_succ]
      · rw [if_neg hin, if_neg (by omega)]
theorem fill_snoc (place : Nat → Option (Nat × Nat)) (i : Nat) (v : Value) : ∀ (l : List (Nat × Value)) (cells : Array Value), Instr.fill place cells (l ++ [(i, v)]) = (Instr.fill place cells l).bind fun c => Instr.fill place c [(i, v)]
  | [], cells => rfl
  | (j, u) :: l, cells => by
    rw [List.cons_append, Instr.fill, Instr.fill]
    cases place j with
    | none => rfl
    | some os =>
      obtain ⟨off, size⟩ := os
      simp only
      split
      · rfl
      · exact fill_snoc place i v l _
/-- The cells of a copy. -/
def copyF (p : Nat) (t a : Int) (F : Nat → Value) (i : Nat) : Value := if i = 0 then .pointer (some ⟨p, 0, none⟩) else if i = 1 then .int .u64 t else if i = 2 then .int .u64 a else if i = 527 then .int .u64 0 else F i
def threeF (p : Nat) (t a : Int) (i : Nat) : Value := if i = 0 then .pointer (some ⟨p, 0, none⟩) else if i = 1 then .int .u64 t else if i = 527 then .int .u64 0 else if i = 2 then .int .u64 a else if (i - 3) % 131 = 64 ∨ (i - 3) % 131 = 65 ∨ (i - 3) % 131 = 130 then .int .i64 0 else .int .u8 0
theorem built_three (p : Nat) (t a : Int) : Try.prog.built 66 [(0, .pointer (some ⟨p, 0, none⟩)), (1, .int .u64 t), (2, .int .u64 a)] = some (rowOf 528 (threeF p t a)) := by kernel_rfl
theorem built_copy (p : Nat) (t a : Int) (F : Nat → Value) : Try.prog.built 66 [(0, .pointer (some ⟨p, 0, none⟩)), (1, .int .u64 t), (2, .int .u64 a), (3, .agg (rowOf 524 (fun j => F (3 + j))))] = some (rowOf 528 (copyF p t a F)) := by
  have h3 := built_three p t a
  have hu := Try.underlying66
  unfold Program.built at h3 ⊢
  cases hq : Try.prog.info? 66 with
  | none => rw [hq] at h3; simp at h3
  | some it =>
    cases hz : it.zero with
    | none => rw [hq, hu] at h3; simp [hz] at h3
    | some z =>
      rw [hq, hu] at h3
      rw [hu]
      simp only [hz] at h3 ⊢
      split at h3
      · rename_i z' places hz' hpl
        have hp : places = [(0, 1), (1, 1), (2, 1), (3, 524), (527, 1)] := Option.some.inj (hpl.symm.trans (by kernel_rfl))
        rw [show [(0, Value.pointer (some ⟨p, 0, none⟩)), (1, .int .u64 t), (2, .int .u64 a), (3, .agg (rowOf 524 (fun j => F (3 + j))))] = [(0, Value.pointer (some ⟨p, 0, none⟩)), (1, .int .u64 t), (2, .int .u64 a)] ++ [(3, .agg (rowOf 524 (fun j => F (3 + j))))] from rfl, fill_snoc, h3]
        show Instr.fill (places.toArray[·]?) (rowOf 528 (threeF p t a)) [(3, .agg (rowOf 524 (fun j => F (3 + j))))] = _
        rw [hp]
        unfold Instr.fill
        have hs : (Value.agg (rowOf 524 (fun j => F (3 + j)))).cells.size = 524 := rowOf_size _ _
        rw [show ([(0, 1), (1, 1), (2, 1), (3, 524), (527, 1)] : List (Nat × Nat)).toArray[3]? = some (3, 524) from rfl]
        simp only
        rw [if_neg (by rw [hs, rowOf_size]; simp)]
        refine (show ∀ c : Array Value, Instr.fill (fun x => ([(0, 1), (1, 1), (2, 1), (3, 524), (527, 1)] : List (Nat × Nat)).toArray[x]?) c [] = some c from fun _ => rfl) _ |>.trans (congrArg some (Array.ext_getElem? fun i => ?_))
        have hf := fold_set 3 (rowOf 524 (fun j => F (3 + j))).toList 0 (rowOf 528 (threeF p t a))
        rw [← Array.foldl_toList, Array.toList_zipIdx]
        show ((List.zipIdx (rowOf 524 (fun j => F (3 + j))).toList 0).foldl (fun (cs : Array Value) (x : Value × Nat) => cs.setIfInBounds (3 + x.2) x.1) (rowOf 528 (threeF p t a)))[i]? = _
        rw [hf.2 i, rowOf_size, Array.length_toList, rowOf_size, Array.getElem?_toList]
        by_cases hi : i < 528
        · rw [rowOf_at hi, rowOf_at hi]
          by_cases hin : 3 + 0 ≤ i ∧ i < 3 + 0 + 524 ∧ i < 528
          · rw [if_pos hin, rowOf_at (by omega)]
            unfold copyF
            rw [if_neg (by omega), if_neg (by omega), if_neg (by omega), if_neg (by omega), show 3 + (i - (3 + 0)) = i by omega]
          · rw [if_neg hin]
            unfold copyF threeF
            by_cases e0 : i = 0
            · rw [if_pos e0, if_pos e0]
            · rw [if_neg e0, if_neg e0]
              by_cases e1 : i = 1
              · rw [if_pos e1, if_pos e1]
              · rw [if_neg e1, if_neg e1]
                by_cases e2 : i = 2
                · rw [if_neg (by omega), if_pos e2, if_pos e2]
                · rw [if_pos (by omega), if_neg e2, if_pos (by omega)]
        · rw [if_neg (by omega), Array.getElem?_eq_none (by rw [rowOf_size]; omega), Array.getElem?_eq_none (by rw [rowOf_size]; omega)]
      · exact absurd h3 (by simp)
def CopyS (w w2 : World) (b p : Nat) (F : Nat → Value) (M : BusM) : Prop :=
  Kept w w2 ∧ w2.cell? ⟨b, 0, none⟩ = some (.pointer (some ⟨p, 0, none⟩)) ∧ w2.cell? ⟨b, 1, none⟩ = some (.int .u64 M.t) ∧ w2.cell? ⟨b, 2, none⟩ = some (.int .u64 M.a) ∧
    (loadVar 59 ⟨b, 3, none⟩).run Try.prog w2 = .ok (.agg (rowOf 524 fun j => F (3 + j))) w2
theorem copyS {w w2 : World} {b p q : Nat} {F : Nat → Value} {M : BusM} (h : BusC w b p q F M) (g : Kept w w2) : CopyS w w2 b p F M := by
  have hr : w2.rowIs b 66 528 F := h.row.of_block (g.same b h.row.lt id)
  refine ⟨g, by rw [hr.cell (by omega), h.f.mem], by rw [hr.cell (by omega), h.f.time], by rw [hr.cell (by omega), h.f.alarm], ?_⟩
  have hs : (Try.prog.info? 59).map (·.size) = some 524 := by kernel_rfl
  have hl : (loadCells ⟨b, 3, none⟩ ((List.range 524).map fun j => F (3 + j)).length).run Try.prog w2 = .ok (rowOf 524 fun j => F (3 + j)) w2 :=
    run_loadCells_list (P := Try.prog) w2 ⟨b, 3, none⟩ ((List.range 524).map fun j => F (3 + j)) (fun j v hv => by
      have hlt : j < 524 := by
        have := (List.getElem?_eq_some_iff.1 hv).1
        simpa using this
      rw [List.getElem?_map, List.getElem?_range hlt] at hv
      obtain rfl := Option.some.inj hv
      rw [show (⟨b, 3, none⟩ : Addr).add j = ⟨b, 3 + j, none⟩ by simp [Addr.add]]
      exact hr.cell (by omega))
  rw [List.length_map, List.length_range] at hl
  cases hq : Try.prog.info? 59 with
  | none => simp [hq] at hs
  | some i =>
    have hi : i.size = 524 := by simpa [hq] using hs
    simp [loadVar, isAgg, run_underlying Try.underlying59, sizeOf, typeInfo, hq, hi, hl]
theorem exec_load {P : Program} {o : Oper} {ev : Operand → Value} {ty : TypeId} {x : Operand} {ad : Addr} {v : Value} {w : World} (ho : o.op = .load ty x) (hx : ev x = .pointer (some ad)) (hl : (loadVar ty ad).run P w = .ok v w) :
    (execOp ev o).run P w = .ok (.value v) w := by
  unfold execOp
  simp only [ho, hx, Instr.loadAt, Instr.sureAddr, Sem.run_bind, Sem.run_pure, Result.andThen_ok, hl]
theorem exec_build {P : Program} {o : Oper} {ev : Operand → Value} {t : TypeId} {parts : Array (Nat × Operand)} {w : World} (ho : o.op = .build t parts) (l : List (Nat × Value)) (hl : (parts.map fun (i, x) => (i, ev x)).toList = l) (cells : Array Value) (hc : P.built t l = some cells) :
    (execOp ev o).run P w = .ok (.value (.agg cells)) w := by
  unfold execOp
  simp only [ho, Sem.run_bind, run_build w t _ cells (by rw [hl]; exact hc), Result.andThen_ok, Sem.run_pure]
theorem copyF_port {p' : Nat} {t a : Int} {F : Nat → Value} {k : Nat} {x : Prt} (hk : k < 4) (h : PortF F (3 + 131 * k) x) : PortF (copyF p' t a F) (3 + 131 * k) x :=
  h.congr fun i h1 h2 => by unfold copyF; rw [if_neg (by omega), if_neg (by omega), if_neg (by omega), if_neg (by omega)]
set_option maxHeartbeats 1000000 in
theorem load_at (w : World) (b : Nat) (r : Int) (hc : w.cell? ⟨b, 527, none⟩ = some (.int .u64 r)) :
    Calls Try.prog 33 #[.pointer (some ⟨b, 527, none⟩)] w fun e w' => e = .returned (.int .u64 r) ∧ w' = w := by
  have hl := run_call_load (P := Try.prog) (w := w) Try.func50 (by kernel_rfl) (by kernel_rfl) (by kernel_rfl) .u64 (by kernel_rfl) hc
  go_enter Try.func33, Try.ntmps33
  go_wp2
  go_ret
  exact ⟨rfl, rfl⟩
set_option maxHeartbeats 1000000 in
theorem store_at {w : World} {b p q : Nat} {M : BusM} (h : BusAt w b p q M) (r : Int) :
    Calls Try.prog 32 #[.pointer (some ⟨b, 527, none⟩), .int .u64 r] w fun e w' => e = .returned (.tuple #[]) ∧ BusAt w' b p q M ∧ Only (fun i => i = b) w w' := by
  obtain ⟨F, h⟩ := h
  obtain ⟨x, hx⟩ := h.f.reads
  have c : w.cell? ⟨b, 527, none⟩ = some (.int .u64 x) := by rw [h.row.cell (by omega), hx]
  have fz := h.row.frozen 527
  have ha := run_call_store (P := Try.prog) (w := w) Try.func49 (by kernel_rfl) (by kernel_rfl) (by kernel_rfl) (by kernel_rfl) (k := .u64) (y := r) c fz
  have ho : Only (fun i => i = b) w (w.setCell ⟨b, 527, none⟩ (.int .u64 r)) := (Only.refl (fun i => i = b) w).setCell rfl _
  have hpost : BusAt (w.setCell ⟨b, 527, none⟩ (.int .u64 r)) b p q M := by
    refine ⟨_, h.row.set 527 _, ⟨?_, ?_, ?_, fun k hk => ?_, r, ?_⟩, h.m.carry ho (Ne.symm h.bp) (Ne.symm h.bq), h.bp, h.bq⟩
    · rw [if_neg (by omega)]; exact h.f.mem
    · rw [if_neg (by omega)]; exact h.f.time
    · rw [if_neg (by omega)]; exact h.f.alarm
    · exact (h.f.port k hk).congr fun i h1 h2 => if_neg (by omega)
    · rw [if_pos rfl]
  clear h
  go_enter Try.func32, Try.ntmps32
  go_wp2
  go_end0
  exact ⟨rfl, hpost, ho⟩
set_option maxRecDepth 10000 in
set_option maxHeartbeats 2000000 in
theorem bcopy_any {w : World} {b p q : Nat} {M : BusM} (h : BusAt w b p q M) :
    Calls Try.prog 12 #[.pointer (some ⟨b, 0, none⟩)] w fun e w' => ∃ b' p' q', e = .returned (.pointer (some ⟨b', 0, none⟩)) ∧ BusAt w' b' p' q' M ∧ w.heap.size ≤ b' ∧ w.heap.size ≤ p' ∧ w.heap.size ≤ q' ∧ Kept w w' := by
  obtain ⟨F, h⟩ := h
  go_enter Try.func12, Try.ntmps12
  go_wp2
  refine wp_region_held_drew (S := fun w2 => CopyS w w2 b p F M) (by kernel_rfl) (copyS h ((Only.refl _ w).drew)) (fun hHeld => ?_)
  refine wpAnyH_take (i := 0) (v := ?_) rfl (by kernel_rfl) (by kernel_rfl) (by kernel_rfl) (fun _ _ _ h => h) (Or.inl ⟨by rfl, ?_⟩) hHeld ?_
  rotate_left
  · intro w2 hSw
    obtain ⟨_, k0, k1, k2, k3⟩ := hSw
    go_simp
    all_goals rfl
  simp only [Act.put, List.getElem_toArray, List.getElem_cons_zero, List.setIfInBounds_toArray, List.set_cons_zero, List.set_cons_succ]
  refine wpAnyH_take (i := 1) (v := ?_) rfl (by kernel_rfl) (by kernel_rfl) (by kernel_rfl) (fun _ _ _ h => h) (Or.inl ⟨by rfl, ?_⟩) hHeld ?_
  rotate_left
  · intro w2 hSw
    obtain ⟨_, k0, k1, k2, k3⟩ := hSw
    go_simp
    all_goals rfl
  simp only [Act.put, List.getElem_toArray, List.getElem_cons_zero, List.getElem_cons_succ, List.setIfInBounds_toArray, List.set_cons_zero, List.set_cons_succ]
  refine wpAnyH_take (i := 2) (v := ?_) rfl (by kernel_rfl) (by kernel_rfl) (by kernel_rfl) (fun _ _ _ h => h) (Or.inl ⟨by rfl, ?_⟩) hHeld ?_
  rotate_left
  · intro w2 hSw
    obtain ⟨_, k0, k1, k2, k3⟩ := hSw
    go_simp
    all_goals rfl
  simp only [Act.put, List.getElem_toArray, List.getElem_cons_zero, List.getElem_cons_succ, List.setIfInBounds_toArray, List.set_cons_zero, List.set_cons_succ]
  refine wpAnyH_take (i := 3) (v := ?_) rfl (by kernel_rfl) (by kernel_rfl) (by kernel_rfl) (fun _ _ _ h => h) (Or.inl ⟨by rfl, ?_⟩) hHeld ?_
  rotate_left
  · intro w2 hSw
    obtain ⟨_, k0, k1, k2, k3⟩ := hSw
    go_simp
    all_goals rfl
  simp only [Act.put, List.getElem_toArray, List.getElem_cons_zero, List.getElem_cons_succ, List.setIfInBounds_toArray, List.set_cons_zero, List.set_cons_succ]
  refine wpAnyH_take (i := 5) (v := ?_) rfl (by kernel_rfl) (by kernel_rfl) (by kernel_rfl) (fun _ _ _ h => h) (Or.inl ⟨by rfl, ?_⟩) hHeld ?_
  rotate_left
  · intro w2 hSw
    obtain ⟨_, k0, k1, k2, k3⟩ := hSw
    go_simp
    all_goals rfl
  simp only [Act.put, List.getElem_toArray, List.getElem_cons_zero, List.getElem_cons_succ, List.setIfInBounds_toArray, List.set_cons_zero, List.set_cons_succ]
  refine wpAnyH_take (i := 6) (v := ?_) rfl (by kernel_rfl) (by kernel_rfl) (by kernel_rfl) (fun _ _ _ h => h) (Or.inl ⟨by rfl, ?_⟩) hHeld ?_
  rotate_left
  · intro w2 hSw
    obtain ⟨_, k0, k1, k2, k3⟩ := hSw
    go_simp
    all_goals rfl
  simp only [Act.put, List.getElem_toArray, List.getElem_cons_zero, List.getElem_cons_succ, List.setIfInBounds_toArray, List.set_cons_zero, List.set_cons_succ]
  refine wpAnyH_take (i := 7) (v := ?_) rfl (by kernel_rfl) (by kernel_rfl) (by kernel_rfl) (fun _ _ _ h => h) (Or.inl ⟨by rfl, ?_⟩) hHeld ?_
  rotate_left
  · intro w2 hSw
    obtain ⟨_, k0, k1, k2, k3⟩ := hSw
    go_simp
    all_goals rfl
  simp only [Act.put, List.getElem_toArray, List.getElem_cons_zero, List.getElem_cons_succ, List.setIfInBounds_toArray, List.set_cons_zero, List.set_cons_succ]
  refine wpAnyH_take (i := 8) (v := ?_) rfl (by kernel_rfl) (by kernel_rfl) (by kernel_rfl) (fun _ _ _ h => h) (Or.inl ⟨by rfl, ?_⟩) hHeld ?_
  rotate_left
  · intro w2 hSw
    obtain ⟨_, k0, k1, k2, k3⟩ := hSw
    go_simp
    all_goals rfl
  simp only [Act.put, List.getElem_toArray, List.getElem_cons_zero, List.getElem_cons_succ, List.setIfInBounds_toArray, List.set_cons_zero, List.set_cons_succ]
  refine wpAnyH_take (i := 9) (v := ?_) rfl (by kernel_rfl) (by kernel_rfl) (by kernel_rfl) (fun _ _ _ h => h) (Or.inl ⟨by rfl, ?_⟩) hHeld ?_
  rotate_left
  · intro w2 hSw
    obtain ⟨_, k0, k1, k2, k3⟩ := hSw
    go_simp
    all_goals rfl
  simp only [Act.put, List.getElem_toArray, List.getElem_cons_zero, List.getElem_cons_succ, List.setIfInBounds_toArray, List.set_cons_zero, List.set_cons_succ]
  refine wpAnyH_take (i := 10) (v := ?_) rfl (by kernel_rfl) (by kernel_rfl) (by kernel_rfl) (fun _ _ _ h => h) (Or.inl ⟨by rfl, ?_⟩) hHeld ?_
  rotate_left
  · intro w2 hSw
    obtain ⟨_, k0, k1, k2, k3⟩ := hSw
    go_simp
    all_goals rfl
  simp only [Act.put, List.getElem_toArray, List.getElem_cons_zero, List.getElem_cons_succ, List.setIfInBounds_toArray, List.set_cons_zero, List.set_cons_succ]
  refine wpAnyH_take (i := 11) (v := ?_) rfl (by kernel_rfl) (by kernel_rfl) (by kernel_rfl) (fun _ _ _ h => h) (Or.inl ⟨by rfl, ?_⟩) hHeld ?_
  rotate_left
  · intro w2 hSw
    obtain ⟨_, k0, k1, k2, k3⟩ := hSw
    go_simp
    all_goals rfl
  simp only [Act.put, List.getElem_toArray, List.getElem_cons_zero, List.getElem_cons_succ, List.setIfInBounds_toArray, List.set_cons_zero, List.set_cons_succ]
  refine wpAnyH_take (i := 12) (v := ?_) rfl (by kernel_rfl) (by kernel_rfl) (by kernel_rfl) (fun _ _ _ h => h) (Or.inl ⟨by rfl, ?_⟩) hHeld ?_
  rotate_left
  · intro w2 hSw
    obtain ⟨_, k0, k1, k2, k3⟩ := hSw
    go_simp
    all_goals rfl
  simp only [Act.put, List.getElem_toArray, List.getElem_cons_zero, List.getElem_cons_succ, List.setIfInBounds_toArray, List.set_cons_zero, List.set_cons_succ]
  refine wpAnyH_take (i := 13) (v := ?_) rfl (by kernel_rfl) (by kernel_rfl) (by kernel_rfl) (fun _ _ _ h => h) (Or.inl ⟨by rfl, ?_⟩) hHeld ?_
  rotate_left
  · intro w2 hSw
    obtain ⟨_, k0, k1, k2, k3⟩ := hSw
    go_simp
    all_goals rfl
  simp only [Act.put, List.getElem_toArray, List.getElem_cons_zero, List.getElem_cons_succ, List.setIfInBounds_toArray, List.set_cons_zero, List.set_cons_succ]
  refine wpAnyH_take (i := 14) (v := ?_) rfl (by kernel_rfl) (by kernel_rfl) (by kernel_rfl) (fun _ _ _ h => h) (Or.inl ⟨by rfl, ?_⟩) hHeld ?_
  rotate_left
  · intro w2 hSw
    obtain ⟨_, k0, k1, k2, k3⟩ := hSw
    go_simp
    all_goals rfl
  simp only [Act.put, List.getElem_toArray, List.getElem_cons_zero, List.getElem_cons_succ, List.setIfInBounds_toArray, List.set_cons_zero, List.set_cons_succ]
  refine wpAnyH_take (i := 15) (v := ?_) rfl (by kernel_rfl) (by kernel_rfl) (by kernel_rfl) (fun _ _ _ h => h) (Or.inl ⟨by rfl, ?_⟩) hHeld ?_
  rotate_left
  · intro w2 hSw
    obtain ⟨_, k0, k1, k2, k3⟩ := hSw
    go_simp
    all_goals rfl
  simp only [Act.put, List.getElem_toArray, List.getElem_cons_zero, List.getElem_cons_succ, List.setIfInBounds_toArray, List.set_cons_zero, List.set_cons_succ]
  refine wpAnyH_take (i := 16) (v := .agg (rowOf 524 fun j => F (3 + j))) rfl (by kernel_rfl) (by kernel_rfl) (by kernel_rfl) (fun _ _ _ h => h) (Or.inl ⟨by rfl, ?_⟩) hHeld ?_
  · intro w2 hSw
    obtain ⟨_, k0, k1, k2, k3⟩ := hSw
    exact exec_load rfl rfl k3
  simp only [Act.put, List.getElem_toArray, List.getElem_cons_zero, List.getElem_cons_succ, List.setIfInBounds_toArray, List.set_cons_zero, List.set_cons_succ]
  refine wpAnyH_ready (rs := [4]) (by kernel_rfl) (by simp) ?_
  refine AllReadyH.cons rfl (fun K hK => ?_) AllReadyH.nil
  go_simp
  refine (mcopy_any _ p q M.B (h.m.kept hHeld.1)).mono ?_
  rintro e w1 ⟨p', q', rfl, hm', hp', hq', hk'⟩
  have hl' := hm'.lt
  have hg1 := hHeld.1.then hk'
  go_simp
  refine hK.out _ _ (copyS h hg1) (fun hHeld => ?_)
  clear hK K
  try simp only [Act.put, List.setIfInBounds_toArray, List.set_cons_zero, List.set_cons_succ]
  refine wpAnyH_take (i := 17) (v := .agg (rowOf 528 (copyF p' M.t M.a F))) rfl (by kernel_rfl) (by kernel_rfl) (by kernel_rfl) (fun _ _ _ h => h) (Or.inl ⟨by rfl, ?_⟩) hHeld ?_
  · intro w2 hSw
    obtain ⟨_, k0, k1, k2, k3⟩ := hSw
    exact exec_build rfl [(0, .pointer (some ⟨p', 0, none⟩)), (1, .int .u64 M.t), (2, .int .u64 M.a), (3, .agg (rowOf 524 (fun j => F (3 + j))))] (by kernel_rfl) (rowOf 528 (copyF p' M.t M.a F)) (built_copy p' M.t M.a F)
  simp only [Act.put, List.getElem_toArray, List.getElem_cons_zero, List.getElem_cons_succ, List.setIfInBounds_toArray, List.set_cons_zero, List.set_cons_succ]
  refine wpAnyH_ready (rs := [18]) (by kernel_rfl) (by simp) ?_
  refine AllReadyH.cons rfl (fun K hK => ?_) AllReadyH.nil
  go_simp
  refine hK.out _ _ (copyS h (hg1.alloc _)) (fun hHeld => ?_)
  clear hK K
  try simp only [Act.put, List.setIfInBounds_toArray, List.set_cons_zero, List.set_cons_succ]
  refine wpAnyH_take (i := 19) (v := ?_) rfl (by kernel_rfl) (by kernel_rfl) (by kernel_rfl) (fun _ _ _ h => h) (Or.inl ⟨by rfl, ?_⟩) hHeld ?_
  rotate_left
  · intro w2 hSw
    obtain ⟨_, k0, k1, k2, k3⟩ := hSw
    go_simp
    all_goals rfl
  simp only [Act.put, List.getElem_toArray, List.getElem_cons_zero, List.getElem_cons_succ, List.setIfInBounds_toArray, List.set_cons_zero, List.set_cons_succ]
  refine wpAnyH_done (by kernel_rfl) ?_ _
  have hsz := hg1.size
  have hB : BusAt (w1.alloc (.cells (rowOf 528 (copyF p' M.t M.a F)) 66)) w1.heap.size p' q' M :=
    ⟨copyF p' M.t M.a F, row_alloc w1 528 _ _, ⟨rfl, rfl, rfl, fun k hk => copyF_port hk (h.f.port k hk), 0, rfl⟩, hm'.kept ((Only.refl _ w1).alloc _), by omega, by omega⟩
  have hg2 : Kept w (w1.alloc (.cells (rowOf 528 (copyF p' M.t M.a F)) 66)) := hg1.alloc _
  obtain ⟨r, hr⟩ := h.f.reads
  obtain ⟨w2, hw2⟩ : ∃ w2, w2 = w1.alloc (.cells (rowOf 528 (copyF p' M.t M.a F)) 66) := ⟨_, rfl⟩
  rw [← hw2] at hB hg2 ⊢
  have hrow : w2.rowIs b 66 528 F := h.row.of_block (hg2.same b h.row.lt id)
  have hcell : w2.drew.cell? ⟨b, 527, none⟩ = some (.int .u64 r) := by rw [← hr]; exact hrow.cell (by omega)
  have hBd : BusAt w2.drew w1.heap.size p' q' M := hB.kept ((Only.refl _ w2).drew)
  have hgd : Kept w w2.drew := hg2.drew
  obtain ⟨c, hc⟩ : ∃ c, c = w1.heap.size := ⟨_, rfl⟩
  rw [← hc] at hB hBd ⊢
  have hcw : w.heap.size ≤ c := by omega
  have hpw : w.heap.size ≤ p' := hp'
  have hqw : w.heap.size ≤ q' := hq'
  clear hw2 hHeld hm' hk' hl' hrow hp' hq' hB hg2 hc
  go_wp2
  go_region_held3 (fun w3 => BusAt w3 c p' q' M ∧ Kept w w3) (exact ⟨by assumption, by assumption⟩) (first | (go_at_call 33; refine (load_at _ _ _ hcell).mono ?_; rintro e w' ⟨rfl, rfl⟩) | (go_at_call 32; refine (store_at hBd _).mono ?_; rintro e w' ⟨rfl, hB2, hk2⟩; have hg3 : Kept w w' := hgd.new hk2 (fun i hi => by omega)))
  go_wp2
  go_ret
  exact ⟨_, _, _, rfl, hB2, hcw, hpw, hqw, hg3⟩
end Go.Proofs.Ytpnlicklfemjeaa
