/-
  Rows whose content is said by the index: made, loaded and stored whole, new cells in them; values built part by part. Nothing of the program is walked here.
-/
import Derived.Test.YtkijdogckfpdpaaDoorBase
import Derived.Deep.OwnRows
import Derived.Laws.Tables
import Derived.Laws.CopyRow
import Derived.BigFrame
namespace Go.Proofs.YtkijdogckfpdpaaDoor
open Go.RowKit
/-- A row with new cells in it. -/
theorem row_splice {w : World} {b : Nat} {t : TypeId} {n : Nat} {f : Nat → Value} (h : w.rowIs b t n f) {cur : Array Value} (hcur : w.heap[b]? = some (.cells cur t (0, 0))) (o : Nat) (vs : List Value) (ho : o + vs.length ≤ n) (g : Nat → Value)
    (hin : ∀ j, j < vs.length → vs[j]? = some (g (o + j))) (hout : ∀ j, j < n → ¬ (o ≤ j ∧ j < o + vs.length) → g j = f j) :
    (w.setRow b (cur.toList.take o ++ vs ++ cur.toList.drop (o + vs.length)).toArray).rowIs b t n g := by
  obtain ⟨c, hb, hs, hcs⟩ := h
  rw [hcur] at hb
  obtain rfl : cur = c := by simpa using hb
  refine ⟨_, setRow_heap w b cur _ t (0, 0) hcur, by simp [hs]; omega, fun i hi => ?_⟩
  rw [List.getElem?_toArray]
  by_cases h1 : i < o
  · rw [List.getElem?_append_left (by simp [hs]; omega), List.getElem?_append_left (by simp [hs]; omega), List.getElem?_take, if_pos h1, Array.getElem?_toList, hcs i hi, hout i hi (by omega)]
  · by_cases h2 : i < o + vs.length
    · rw [List.getElem?_append_left (by simp [hs]; omega), List.getElem?_append_right (by simp [hs]; omega)]
      have e : i - (cur.toList.take o).length = i - o := by simp [hs]; omega
      rw [e, hin (i - o) (by omega), show o + (i - o) = i by omega]
    · rw [List.getElem?_append_right (by simp [hs]; omega), List.getElem?_drop, Array.getElem?_toList]
      have e : o + vs.length + (i - (cur.toList.take o ++ vs).length) = i := by simp [hs]; omega
      rw [e, hcs i hi, hout i hi (by omega)]
def rowOf (n : Nat) (F : Nat → Value) : Array Value := ((List.range n).map F).toArray
theorem rowOf_size (n : Nat) (F : Nat → Value) : (rowOf n F).size = n := by simp [rowOf]
theorem rowOf_at {n : Nat} {F : Nat → Value} {i : Nat} (h : i < n) : (rowOf n F)[i]? = some (F i) := by simp [rowOf, h]
theorem row_alloc (w : World) (n : Nat) (F : Nat → Value) (T : TypeId) : (w.alloc (.cells (rowOf n F) T)).rowIs w.heap.size T n F := by
  have h := World.rowIs_alloc w (rowOf n F) T F (fun i hi => rowOf_at (by rwa [rowOf_size] at hi))
  rwa [rowOf_size] at h
theorem wpList_built {P : Program} {ops : Array Oper} {rest : List Oper} {o : Oper} {a : Act} {w : World} {Q : Exit → Act → World → Prop} (hg : o.guard = none) (t : TypeId) (parts : Array (Nat × Operand)) (ho : o.op = .build t parts)
    (cells : Array Value) (hf : P.built t (parts.map fun (i, x) => (i, a.eval x)).toList = some cells)
    (h : wpList P ops Q rest (a.put o.dst (.agg cells)) w) : wpList P ops Q (o :: rest) a w :=
  wpList_build hg t parts ho (by rw [hf]; rfl) (by rw [hf]; exact h)
theorem fold_set (off : Nat) : ∀ (l : List Value) (k : Nat) (cells : Array Value),
    ((l.zipIdx k).foldl (fun (cs : Array Value) (x : Value × Nat) => cs.setIfInBounds (off + x.2) x.1) cells).size = cells.size ∧
    ∀ i, ((l.zipIdx k).foldl (fun (cs : Array Value) (x : Value × Nat) => cs.setIfInBounds (off + x.2) x.1) cells)[i]? = if off + k ≤ i ∧ i < off + k + l.length ∧ i < cells.size then l[i - (off + k)]? else cells[i]?
  | [], k, cells => ⟨rfl, fun i => by rw [if_neg (by simp; omega)]; rfl⟩
  | v :: l, k, cells => by
    obtain ⟨h1, h2⟩ := fold_set off l (k + 1) (cells.setIfInBounds (off + k) v)
    simp only [List.zipIdx_cons, List.foldl_cons]
    refine ⟨by rw [h1]; simp, fun i => ?_⟩
    rw [h2 i, Array.getElem?_setIfInBounds, Array.size_setIfInBounds, List.length_cons]
    by_cases e : i = off + k
    · subst e
      rw [if_neg (by omega), if_pos rfl, Nat.sub_self]
      by_cases hs : off + k < cells.size
      · rw [if_pos hs, if_pos (by omega)]; rfl
      · rw [if_neg hs, if_neg (by omega), Array.getElem?_eq_none (by omega)]
    · rw [if_neg (show ¬ (off + k = i) from fun x => e x.symm)]
      by_cases hin : off + (k + 1) ≤ i ∧ i < off + (k + 1) + l.length ∧ i < cells.size
      · rw [if_pos hin, if_pos (by omega), show i - (off + k) = (i - (off + (k + 1))) + 1 by omega, List.getElem?_cons_succ]
      · rw [if_neg hin, if_neg (by omega)]
theorem fill_snoc (place : Nat → Option (Nat × Nat)) (i : Nat) (v : Value) : ∀ (l : List (Nat × Value)) (cells : Array Value), Instr.fill place cells (l ++ [(i, v)]) = (Instr.fill place cells l).bind fun c => Instr.fill place c [(i, v)]
  | [], cells => rfl
  | (j, u) :: l, cells => by
    rw [List.cons_append, Instr.fill, Instr.fill]
    cases place j with
    | none => rfl
    | some os =>
      obtain ⟨off, size⟩ := os
      simp only
      split
      · rfl
      · exact fill_snoc place i v l _
theorem exec_load {P : Program} {o : Oper} {ev : Operand → Value} {ty : TypeId} {x : Operand} {ad : Addr} {v : Value} {w : World} (ho : o.op = .load ty x) (hx : ev x = .pointer (some ad)) (hl : (loadVar ty ad).run P w = .ok v w) :
    (execOp ev o).run P w = .ok (.value v) w := by
  unfold execOp
  simp only [ho, hx, Instr.loadAt, Instr.sureAddr, Sem.run_bind, Sem.run_pure, Result.andThen_ok, hl]
theorem exec_build {P : Program} {o : Oper} {ev : Operand → Value} {t : TypeId} {parts : Array (Nat × Operand)} {w : World} (ho : o.op = .build t parts) (l : List (Nat × Value)) (hl : (parts.map fun (i, x) => (i, ev x)).toList = l) (cells : Array Value) (hc : P.built t l = some cells) :
    (execOp ev o).run P w = .ok (.value (.agg cells)) w := by
  unfold execOp
  simp only [ho, Sem.run_bind, run_build w t _ cells (by rw [hl]; exact hc), Result.andThen_ok, Sem.run_pure]
/-- A value built, guarded or not. -/
theorem wpList_built_is {P : Program} {ops : Array Oper} {rest : List Oper} {o : Oper} {a : Act} {w : World} {Q : Exit → Act → World → Prop} (hw : Region.wanted o (yielded ops a.tmps) = true) (t : TypeId) (parts : Array (Nat × Operand)) (ho : o.op = .build t parts)
    (cells : Array Value) (hf : P.built t (parts.map fun (i, x) => (i, a.eval x)).toList = some cells)
    (h : wpList P ops Q rest (a.put o.dst (.agg cells)) w) : wpList P ops Q (o :: rest) a w :=
  BigFrame.wpList_want hw fun _ hK => by
    unfold Oper.wp
    rw [exec_build ho _ rfl cells hf]
    exact hK _ _ h
theorem load_row {P : Program} {w : World} {b n : Nat} {T ty : TypeId} {F : Nat → Value} (h : w.rowIs b T n F) (d : TypeDesc) (hu : P.underlying ty = some d) (hd : (match d with | .struct _ | .array _ _ => true | _ => false) = true) (hi : (P.info? ty).map (·.size) = some n) :
    (loadVar ty ⟨b, 0, none⟩).run P w = .ok (.agg (rowOf n F)) w := by
  have hl : (loadCells ⟨b, 0, none⟩ ((List.range n).map F).length).run P w = .ok (rowOf n F) w :=
    run_loadCells_list (P := P) w ⟨b, 0, none⟩ ((List.range n).map F) (fun j v hv => by
      have hlt : j < n := by
        have := (List.getElem?_eq_some_iff.1 hv).1
        simpa using this
      rw [List.getElem?_map, List.getElem?_range hlt] at hv
      obtain rfl := Option.some.inj hv
      rw [show (⟨b, 0, none⟩ : Addr).add j = ⟨b, j, none⟩ by unfold Addr.add; split <;> simp_all]
      exact h.cell hlt)
  rw [List.length_map, List.length_range] at hl
  cases hq : P.info? ty with
  | none => simp [hq] at hi
  | some i =>
    have hs : i.size = n := by simpa [hq] using hi
    have hagg : (isAgg ty).run P w = .ok true w := by
      unfold isAgg
      rw [Sem.run_bind, run_underlying hu w]
      cases d <;> simp_all
    simp [loadVar, Sem.run_bind, hagg, sizeOf, typeInfo, hq, hs, hl]
theorem wpList_load_row {P : Program} {ops : Array Oper} {rest : List Oper} {o : Oper} {a : Act} {w : World} {Q : Exit → Act → World → Prop} (hgd : o.guard = none) (ty : TypeId) (x : Operand) (ho : o.op = .load ty x)
    {b n : Nat} (hx : a.eval x = .pointer (some ⟨b, 0, none⟩)) {T : TypeId} {F : Nat → Value} (hr : w.rowIs b T n F) (d : TypeDesc) (hu : P.underlying ty = some d) (hd : (match d with | .struct _ | .array _ _ => true | _ => false) = true) (hi : (P.info? ty).map (·.size) = some n)
    (h : wpList P ops Q rest (a.put o.dst (.agg (rowOf n F))) w) : wpList P ops Q (o :: rest) a w :=
  wpList_plain hgd fun _ hK => by
    unfold Oper.wp execOp
    simp only [ho, hx, Instr.loadAt, Instr.sureAddr, Sem.run_bind, Sem.run_pure, Result.andThen_ok, load_row hr d hu hd hi]
    exact hK _ _ h
/-- The same, guarded or not. -/
theorem wpList_load_is {P : Program} {ops : Array Oper} {rest : List Oper} {o : Oper} {a : Act} {w : World} {Q : Exit → Act → World → Prop} (hw : Region.wanted o (yielded ops a.tmps) = true) (ty : TypeId) (x : Operand) (ho : o.op = .load ty x)
    {b n : Nat} (hx : a.eval x = .pointer (some ⟨b, 0, none⟩)) {T : TypeId} {F : Nat → Value} (hr : w.rowIs b T n F) (d : TypeDesc) (hu : P.underlying ty = some d) (hd : (match d with | .struct _ | .array _ _ => true | _ => false) = true) (hi : (P.info? ty).map (·.size) = some n)
    (h : wpList P ops Q rest (a.put o.dst (.agg (rowOf n F))) w) : wpList P ops Q (o :: rest) a w :=
  BigFrame.wpList_want hw fun _ hK => by
    unfold Oper.wp execOp
    simp only [ho, hx, Instr.loadAt, Instr.sureAddr, Sem.run_bind, Sem.run_pure, Result.andThen_ok, load_row hr d hu hd hi]
    exact hK _ _ h
/-- A row stored whole. -/
theorem row_stored {w : World} {b n : Nat} {T : TypeId} {F : Nat → Value} (h : w.rowIs b T n F) (G : Nat → Value) : (w.setRow b (rowOf n G)).rowIs b T n G := by
  obtain ⟨c, hb, hs, _⟩ := h
  exact ⟨_, setRow_heap w b c _ T (0, 0) hb, rowOf_size n G, fun i hi => rowOf_at hi⟩
theorem wpList_store_is {P : Program} {ops : Array Oper} {rest : List Oper} {o : Oper} {a : Act} {w : World} {Q : Exit → Act → World → Prop} (hgd : o.guard = none) (ty : TypeId) (x y : Operand) (ho : o.op = .store ty x y)
    {b n : Nat} {G : Nat → Value} (hx : a.eval x = .pointer (some ⟨b, 0, none⟩)) (hy : a.eval y = .agg (rowOf n G)) {T : TypeId} {F : Nat → Value} (hr : w.rowIs b T n F) (hi : (P.info? ty).map (·.size) = some n) (h1 : ∀ i, i < n → (G i).oneCell' = true)
    (h : wpList P ops Q rest (a.put o.dst undef) (w.setRow b (rowOf n G))) : wpList P ops Q (o :: rest) a w := by
  obtain ⟨c, hb, hs, hc⟩ := hr
  refine wpList_store_row hgd ty x y ho b (rowOf n G) hx hy T c hb (by rw [hi, rowOf_size]) (by rw [hs, rowOf_size]) ?_ h
  rw [Array.all_eq_true]
  intro i hi
  rw [rowOf_size] at hi
  have e := rowOf_at (F := G) hi
  rw [Array.getElem?_eq_getElem (by rw [rowOf_size]; exact hi)] at e
  rw [Option.some.inj e]
  exact h1 i hi
/-- A new variable, its cells said by the caller. -/
theorem wpList_alloc_is {P : Program} {ops : Array Oper} {rest : List Oper} {o : Oper} {a : Act} {w : World} {Q : Exit → Act → World → Prop} (hg : o.guard = none) (t : TypeId) (ho : o.op = .alloc t) (c : Array Value)
    (hz : (P.info? t).map (fun i => i.zero.map (·.cells)) = some (some c)) (h : wpList P ops Q rest (a.put o.dst (.pointer (some ⟨w.heap.size, 0, none⟩))) (w.alloc (.cells c t))) : wpList P ops Q (o :: rest) a w := by
  refine wpList_plain hg fun K hK => ?_
  obtain ⟨i, hi, hc⟩ := Option.map_eq_some_iff.1 hz
  obtain ⟨z, hzz, rfl⟩ := Option.map_eq_some_iff.1 hc
  unfold Oper.wp execOp
  have hzv : (zeroValue t).run P w = .ok z w := by simp [zeroValue, typeInfo, hi, hzz]
  simp only [ho, Instr.alloc, Sem.run_bind, hzv, newVar, newRow, run_newObj_alloc, Sem.run_pure, Result.andThen_ok]
  exact hK _ _ h
theorem load_list {P : Program} (w : World) (g : Nat) (ty : TypeId) (cs : List Value) (d : TypeDesc) (hc : ∀ i v, cs[i]? = some v → w.cell? ⟨g, i, none⟩ = some v)
    (hu : P.underlying ty = some d) (hd : (match d with | .struct _ | .array _ _ => true | _ => false) = true) (hi : (P.info? ty).map (·.size) = some cs.length) :
    (loadVar ty ⟨g, 0, none⟩).run P w = .ok (.agg cs.toArray) w := by
  have hl : (loadCells ⟨g, 0, none⟩ cs.length).run P w = .ok cs.toArray w :=
    run_loadCells_list (P := P) w ⟨g, 0, none⟩ cs (fun j v hv => by
      have hadd : (⟨g, 0, none⟩ : Addr).add j = ⟨g, j, none⟩ := by unfold Addr.add; split <;> simp_all
      rw [hadd]
      exact hc j v hv)
  cases hq : P.info? ty with
  | none => simp [hq] at hi
  | some i =>
    have hs : i.size = cs.length := by simpa [hq] using hi
    have hagg : (isAgg ty).run P w = .ok true w := by
      unfold isAgg
      rw [Sem.run_bind, run_underlying hu w]
      cases d <;> simp_all
    simp [loadVar, Sem.run_bind, hagg, sizeOf, typeInfo, hq, hs, hl]
theorem wpList_load_list {P : Program} {ops : Array Oper} {rest : List Oper} {o : Oper} {a : Act} {w : World} {Q : Exit → Act → World → Prop} (hgd : o.guard = none) (ty : TypeId) (x : Operand) (ho : o.op = .load ty x)
    (g : Nat) (hx : a.eval x = .pointer (some ⟨g, 0, none⟩)) (cs : List Value) (d : TypeDesc) (hc : ∀ i v, cs[i]? = some v → w.cell? ⟨g, i, none⟩ = some v)
    (hu : P.underlying ty = some d) (hd : (match d with | .struct _ | .array _ _ => true | _ => false) = true) (hi : (P.info? ty).map (·.size) = some cs.length)
    (h : wpList P ops Q rest (a.put o.dst (.agg cs.toArray)) w) : wpList P ops Q (o :: rest) a w :=
  wpList_plain hgd fun _ hK => by
    unfold Oper.wp execOp
    simp only [ho, hx, Instr.loadAt, Instr.sureAddr, Sem.run_bind, Sem.run_pure, Result.andThen_ok, load_list w g ty cs d hc hu hd hi]
    exact hK _ _ h
theorem wp_of_exec {P : Program} {o : Oper} {a : Act} {w w' : World} {v : Value} {K : Act → World → Prop} {Q : Exit → Act → World → Prop} (h : (execOp a.eval o).run P w = .ok (.value v) w') (hk : K (a.put o.dst v) w') : o.wp P a w K Q := by
  unfold Oper.wp
  rw [h]
  exact hk
theorem wp_of_skip {P : Program} {o : Oper} {a : Act} {w w' : World} {K : Act → World → Prop} {Q : Exit → Act → World → Prop} (h : (execOp a.eval o).run P w = .ok .skip w') (hk : K (a.put o.dst undef) w') : o.wp P a w K Q := by
  unfold Oper.wp
  rw [h]
  exact hk
theorem exec_alloc {P : Program} {o : Oper} {ev : Operand → Value} {t : TypeId} {c : Array Value} {w : World} (ho : o.op = .alloc t) (hz : (P.info? t).map (fun i => i.zero.map (·.cells)) = some (some c)) :
    (execOp ev o).run P w = .ok (.value (.pointer (some ⟨w.heap.size, 0, none⟩))) (w.alloc (.cells c t)) := by
  obtain ⟨i, hi, hc⟩ := Option.map_eq_some_iff.1 hz
  obtain ⟨z, hzz, rfl⟩ := Option.map_eq_some_iff.1 hc
  have hzv : (zeroValue t).run P w = .ok z w := by simp [zeroValue, typeInfo, hi, hzz]
  unfold execOp
  simp only [ho, Instr.alloc, Sem.run_bind, hzv, newVar, newRow, run_newObj_alloc, Sem.run_pure, Result.andThen_ok]
theorem exec_store {P : Program} {o : Oper} {ev : Operand → Value} {ty : TypeId} {x y : Operand} {b n : Nat} {G : Nat → Value} {T : TypeId} {F : Nat → Value} {w : World} (ho : o.op = .store ty x y) (hx : ev x = .pointer (some ⟨b, 0, none⟩)) (hy : ev y = .agg (rowOf n G)) (hr : w.rowIs b T n F) (hi : (P.info? ty).map (·.size) = some n) (h1 : ∀ i, i < n → (G i).oneCell' = true) :
    (execOp ev o).run P w = .ok .skip (w.setRow b (rowOf n G)) := by
  obtain ⟨c, hb, hs, hc⟩ := hr
  have hall : (rowOf n G).all (·.oneCell') = true := by
    rw [Array.all_eq_true]
    intro i hi
    rw [rowOf_size] at hi
    have e := rowOf_at (F := G) hi
    rw [Array.getElem?_eq_getElem (by rw [rowOf_size]; exact hi)] at e
    rw [Option.some.inj e]
    exact h1 i hi
  have hst := run_storeVar_row (P := P) w b T ty c (rowOf n G) hb (by rw [hi, rowOf_size]) (by rw [hs, rowOf_size]) hall
  unfold execOp
  simp only [ho, hx, hy, Instr.storeAt, Instr.sureAddr, Sem.run_bind, Sem.run_pure, Result.andThen_ok, hst]
theorem alloc_last (w : World) (c : Array Value) (T : TypeId) : (w.alloc (.cells c T)).heap[w.heap.size]? = some (.cells c T (0, 0)) := Go.Deep.blk_alloc_new _ _
end Go.Proofs.YtkijdogckfpdpaaDoor
