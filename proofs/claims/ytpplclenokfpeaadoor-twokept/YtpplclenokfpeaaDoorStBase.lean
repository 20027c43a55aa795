/-
  A state of the machine: its sixty-five cells; states that are compared, loaded and stored whole. Nothing of the program is walked here.
-/
import Derived.Test.YtpplclenokfpeaaDoorBase
import Derived.Deep.OwnRows
import Derived.Laws.Tables
import Derived.Laws.CopyRow
import Derived.BigFrame
import Derived.Test.YtpplclenokfpeaaDoorMemBase
import Derived.DeepKeys
import Derived.Laws.StructEq
namespace Go.Proofs.YtpplclenokfpeaaDoor
open Go.RowKit
/-- A row with new cells in it. -/
theorem row_splice {w : World} {b : Nat} {t : TypeId} {n : Nat} {f : Nat → Value} (h : w.rowIs b t n f) {cur : Array Value} (hcur : w.heap[b]? = some (.cells cur t (0, 0))) (o : Nat) (vs : List Value) (ho : o + vs.length ≤ n) (g : Nat → Value)
    (hin : ∀ j, j < vs.length → vs[j]? = some (g (o + j))) (hout : ∀ j, j < n → ¬ (o ≤ j ∧ j < o + vs.length) → g j = f j) :
    (w.setRow b (cur.toList.take o ++ vs ++ cur.toList.drop (o + vs.length)).toArray).rowIs b t n g := by
  obtain ⟨c, hb, hs, hcs⟩ := h
  rw [hcur] at hb
  obtain rfl : cur = c := by simpa using hb
  refine ⟨_, setRow_heap w b cur _ t (0, 0) hcur, by simp [hs]; omega, fun i hi => ?_⟩
  rw [List.getElem?_toArray]
  by_cases h1 : i < o
  · rw [List.getElem?_append_left (by simp [hs]; omega), List.getElem?_append_left (by simp [hs]; omega), List.getElem?_take, if_pos h1, Array.getElem?_toList, hcs i hi, hout i hi (by omega)]
  · by_cases h2 : i < o + vs.length
    · rw [List.getElem?_append_left (by simp [hs]; omega), List.getElem?_append_right (by simp [hs]; omega)]
      have e : i - (cur.toList.take o).length = i - o := by simp [hs]; omega
      rw [e, hin (i - o) (by omega), show o + (i - o) = i by omega]
    · rw [List.getElem?_append_right (by simp [hs]; omega), List.getElem?_drop, Array.getElem?_toList]
      have e : o + vs.length + (i - (cur.toList.take o ++ vs).length) = i := by simp [hs]; omega
      rw [e, hcs i hi, hout i hi (by omega)]
def rowOf (n : Nat) (F : Nat → Value) : Array Value := ((List.range n).map F).toArray
theorem rowOf_size (n : Nat) (F : Nat → Value) : (rowOf n F).size = n := by simp [rowOf]
theorem rowOf_at {n : Nat} {F : Nat → Value} {i : Nat} (h : i < n) : (rowOf n F)[i]? = some (F i) := by simp [rowOf, h]
theorem row_alloc (w : World) (n : Nat) (F : Nat → Value) (T : TypeId) : (w.alloc (.cells (rowOf n F) T)).rowIs w.heap.size T n F := by
  have h := World.rowIs_alloc w (rowOf n F) T F (fun i hi => rowOf_at (by rwa [rowOf_size] at hi))
  rwa [rowOf_size] at h
theorem wpList_built {P : Program} {ops : Array Oper} {rest : List Oper} {o : Oper} {a : Act} {w : World} {Q : Exit → Act → World → Prop} (hg : o.guard = none) (t : TypeId) (parts : Array (Nat × Operand)) (ho : o.op = .build t parts)
    (cells : Array Value) (hf : P.built t (parts.map fun (i, x) => (i, a.eval x)).toList = some cells)
    (h : wpList P ops Q rest (a.put o.dst (.agg cells)) w) : wpList P ops Q (o :: rest) a w :=
  wpList_build hg t parts ho (by rw [hf]; rfl) (by rw [hf]; exact h)
theorem fold_set (off : Nat) : ∀ (l : List Value) (k : Nat) (cells : Array Value),
    ((l.zipIdx k).foldl (fun (cs : Array Value) (x : Value × Nat) => cs.setIfInBounds (off + x.2) x.1) cells).size = cells.size ∧
    ∀ i, ((l.zipIdx k).foldl (fun (cs : Array Value) (x : Value × Nat) => cs.setIfInBounds (off + x.2) x.1) cells)[i]? = if off + k ≤ i ∧ i < off + k + l.length ∧ i < cells.size then l[i - (off + k)]? else cells[i]?
  | [], k, cells => ⟨rfl, fun i => by rw [if_neg (by simp; omega)]; rfl⟩
  | v :: l, k, cells => by
    obtain ⟨h1, h2⟩ := fold_set off l (k + 1) (cells.setIfInBounds (off + k) v)
    simp only [List.zipIdx_cons, List.foldl_cons]
    refine ⟨by rw [h1]; simp, fun i => ?_⟩
    rw [h2 i, Array.getElem?_setIfInBounds, Array.size_setIfInBounds, List.length_cons]
    by_cases e : i = off + k
    · subst e
      rw [if_neg (by omega), if_pos rfl, Nat.sub_self]
      by_cases hs : off + k < cells.size
      · rw [if_pos hs, if_pos (by omega)]; rfl
      · rw [if_neg hs, if_neg (by omega), Array.getElem?_eq_none (by omega)]
    · rw [if_neg (show ¬ (off + k = i) from fun x => e x.symm)]
      by_cases hin : off + (k + 1) ≤ i ∧ i < off + (k + 1) + l.length ∧ i < cells.size
      · rw [if_pos hin, if_pos (by omega), show i - (off + k) = (i - (off + (k + 1))) + 1 by omega, List.getElem?_cons_succ]
      · rw [if_neg hin, if_neg (by omega)]
theorem fill_snoc (place : Nat → Option (Nat × Nat)) (i : Nat) (v : Value) : ∀ (l : List (Nat × Value)) (cells : Array Value), Instr.fill place cells (l ++ [(i, v)]) = (Instr.fill place cells l).bind fun c => Instr.fill place c [(i, v)]
  | [], cells => rfl
  | (j, u) :: l, cells => by
    rw [List.cons_append, Instr.fill, Instr.fill]
    cases place j with
    | none => rfl
    | some os =>
      obtain ⟨off, size⟩ := os
      simp only
      split
      · rfl
      · exact fill_snoc place i v l _
theorem exec_load {P : Program} {o : Oper} {ev : Operand → Value} {ty : TypeId} {x : Operand} {ad : Addr} {v : Value} {w : World} (ho : o.op = .load ty x) (hx : ev x = .pointer (some ad)) (hl : (loadVar ty ad).run P w = .ok v w) :
    (execOp ev o).run P w = .ok (.value v) w := by
  unfold execOp
  simp only [ho, hx, Instr.loadAt, Instr.sureAddr, Sem.run_bind, Sem.run_pure, Result.andThen_ok, hl]
theorem exec_build {P : Program} {o : Oper} {ev : Operand → Value} {t : TypeId} {parts : Array (Nat × Operand)} {w : World} (ho : o.op = .build t parts) (l : List (Nat × Value)) (hl : (parts.map fun (i, x) => (i, ev x)).toList = l) (cells : Array Value) (hc : P.built t l = some cells) :
    (execOp ev o).run P w = .ok (.value (.agg cells)) w := by
  unfold execOp
  simp only [ho, Sem.run_bind, run_build w t _ cells (by rw [hl]; exact hc), Result.andThen_ok, Sem.run_pure]
/-- A value built, guarded or not. -/
theorem wpList_built_is {P : Program} {ops : Array Oper} {rest : List Oper} {o : Oper} {a : Act} {w : World} {Q : Exit → Act → World → Prop} (hw : Region.wanted o (yielded ops a.tmps) = true) (t : TypeId) (parts : Array (Nat × Operand)) (ho : o.op = .build t parts)
    (cells : Array Value) (hf : P.built t (parts.map fun (i, x) => (i, a.eval x)).toList = some cells)
    (h : wpList P ops Q rest (a.put o.dst (.agg cells)) w) : wpList P ops Q (o :: rest) a w :=
  BigFrame.wpList_want hw fun _ hK => by
    unfold Oper.wp
    rw [exec_build ho _ rfl cells hf]
    exact hK _ _ h
theorem load_row {P : Program} {w : World} {b n : Nat} {T ty : TypeId} {F : Nat → Value} (h : w.rowIs b T n F) (d : TypeDesc) (hu : P.underlying ty = some d) (hd : (match d with | .struct _ | .array _ _ => true | _ => false) = true) (hi : (P.info? ty).map (·.size) = some n) :
    (loadVar ty ⟨b, 0, none⟩).run P w = .ok (.agg (rowOf n F)) w := by
  have hl : (loadCells ⟨b, 0, none⟩ ((List.range n).map F).length).run P w = .ok (rowOf n F) w :=
    run_loadCells_list (P := P) w ⟨b, 0, none⟩ ((List.range n).map F) (fun j v hv => by
      have hlt : j < n := by
        have := (List.getElem?_eq_some_iff.1 hv).1
        simpa using this
      rw [List.getElem?_map, List.getElem?_range hlt] at hv
      obtain rfl := Option.some.inj hv
      rw [show (⟨b, 0, none⟩ : Addr).add j = ⟨b, j, none⟩ by unfold Addr.add; split <;> simp_all]
      exact h.cell hlt)
  rw [List.length_map, List.length_range] at hl
  cases hq : P.info? ty with
  | none => simp [hq] at hi
  | some i =>
    have hs : i.size = n := by simpa [hq] using hi
    have hagg : (isAgg ty).run P w = .ok true w := by
      unfold isAgg
      rw [Sem.run_bind, run_underlying hu w]
      cases d <;> simp_all
    simp [loadVar, Sem.run_bind, hagg, sizeOf, typeInfo, hq, hs, hl]
theorem wpList_load_row {P : Program} {ops : Array Oper} {rest : List Oper} {o : Oper} {a : Act} {w : World} {Q : Exit → Act → World → Prop} (hgd : o.guard = none) (ty : TypeId) (x : Operand) (ho : o.op = .load ty x)
    {b n : Nat} (hx : a.eval x = .pointer (some ⟨b, 0, none⟩)) {T : TypeId} {F : Nat → Value} (hr : w.rowIs b T n F) (d : TypeDesc) (hu : P.underlying ty = some d) (hd : (match d with | .struct _ | .array _ _ => true | _ => false) = true) (hi : (P.info? ty).map (·.size) = some n)
    (h : wpList P ops Q rest (a.put o.dst (.agg (rowOf n F))) w) : wpList P ops Q (o :: rest) a w :=
  wpList_plain hgd fun _ hK => by
    unfold Oper.wp execOp
    simp only [ho, hx, Instr.loadAt, Instr.sureAddr, Sem.run_bind, Sem.run_pure, Result.andThen_ok, load_row hr d hu hd hi]
    exact hK _ _ h
/-- The same, guarded or not. -/
theorem wpList_load_is {P : Program} {ops : Array Oper} {rest : List Oper} {o : Oper} {a : Act} {w : World} {Q : Exit → Act → World → Prop} (hw : Region.wanted o (yielded ops a.tmps) = true) (ty : TypeId) (x : Operand) (ho : o.op = .load ty x)
    {b n : Nat} (hx : a.eval x = .pointer (some ⟨b, 0, none⟩)) {T : TypeId} {F : Nat → Value} (hr : w.rowIs b T n F) (d : TypeDesc) (hu : P.underlying ty = some d) (hd : (match d with | .struct _ | .array _ _ => true | _ => false) = true) (hi : (P.info? ty).map (·.size) = some n)
    (h : wpList P ops Q rest (a.put o.dst (.agg (rowOf n F))) w) : wpList P ops Q (o :: rest) a w :=
  BigFrame.wpList_want hw fun _ hK => by
    unfold Oper.wp execOp
    simp only [ho, hx, Instr.loadAt, Instr.sureAddr, Sem.run_bind, Sem.run_pure, Result.andThen_ok, load_row hr d hu hd hi]
    exact hK _ _ h
/-- A row stored whole. -/
theorem row_stored {w : World} {b n : Nat} {T : TypeId} {F : Nat → Value} (h : w.rowIs b T n F) (G : Nat → Value) : (w.setRow b (rowOf n G)).rowIs b T n G := by
  obtain ⟨c, hb, hs, _⟩ := h
  exact ⟨_, setRow_heap w b c _ T (0, 0) hb, rowOf_size n G, fun i hi => rowOf_at hi⟩
theorem wpList_store_is {P : Program} {ops : Array Oper} {rest : List Oper} {o : Oper} {a : Act} {w : World} {Q : Exit → Act → World → Prop} (hgd : o.guard = none) (ty : TypeId) (x y : Operand) (ho : o.op = .store ty x y)
    {b n : Nat} {G : Nat → Value} (hx : a.eval x = .pointer (some ⟨b, 0, none⟩)) (hy : a.eval y = .agg (rowOf n G)) {T : TypeId} {F : Nat → Value} (hr : w.rowIs b T n F) (hi : (P.info? ty).map (·.size) = some n) (h1 : ∀ i, i < n → (G i).oneCell' = true)
    (h : wpList P ops Q rest (a.put o.dst undef) (w.setRow b (rowOf n G))) : wpList P ops Q (o :: rest) a w := by
  obtain ⟨c, hb, hs, hc⟩ := hr
  refine wpList_store_row hgd ty x y ho b (rowOf n G) hx hy T c hb (by rw [hi, rowOf_size]) (by rw [hs, rowOf_size]) ?_ h
  rw [Array.all_eq_true]
  intro i hi
  rw [rowOf_size] at hi
  have e := rowOf_at (F := G) hi
  rw [Array.getElem?_eq_getElem (by rw [rowOf_size]; exact hi)] at e
  rw [Option.some.inj e]
  exact h1 i hi
/-- A new variable, its cells said by the caller. -/
theorem wpList_alloc_is {P : Program} {ops : Array Oper} {rest : List Oper} {o : Oper} {a : Act} {w : World} {Q : Exit → Act → World → Prop} (hg : o.guard = none) (t : TypeId) (ho : o.op = .alloc t) (c : Array Value)
    (hz : (P.info? t).map (fun i => i.zero.map (·.cells)) = some (some c)) (h : wpList P ops Q rest (a.put o.dst (.pointer (some ⟨w.heap.size, 0, none⟩))) (w.alloc (.cells c t))) : wpList P ops Q (o :: rest) a w := by
  refine wpList_plain hg fun K hK => ?_
  obtain ⟨i, hi, hc⟩ := Option.map_eq_some_iff.1 hz
  obtain ⟨z, hzz, rfl⟩ := Option.map_eq_some_iff.1 hc
  unfold Oper.wp execOp
  have hzv : (zeroValue t).run P w = .ok z w := by simp [zeroValue, typeInfo, hi, hzz]
  simp only [ho, Instr.alloc, Sem.run_bind, hzv, newVar, newRow, run_newObj_alloc, Sem.run_pure, Result.andThen_ok]
  exact hK _ _ h
theorem load_list {P : Program} (w : World) (g : Nat) (ty : TypeId) (cs : List Value) (d : TypeDesc) (hc : ∀ i v, cs[i]? = some v → w.cell? ⟨g, i, none⟩ = some v)
    (hu : P.underlying ty = some d) (hd : (match d with | .struct _ | .array _ _ => true | _ => false) = true) (hi : (P.info? ty).map (·.size) = some cs.length) :
    (loadVar ty ⟨g, 0, none⟩).run P w = .ok (.agg cs.toArray) w := by
  have hl : (loadCells ⟨g, 0, none⟩ cs.length).run P w = .ok cs.toArray w :=
    run_loadCells_list (P := P) w ⟨g, 0, none⟩ cs (fun j v hv => by
      have hadd : (⟨g, 0, none⟩ : Addr).add j = ⟨g, j, none⟩ := by unfold Addr.add; split <;> simp_all
      rw [hadd]
      exact hc j v hv)
  cases hq : P.info? ty with
  | none => simp [hq] at hi
  | some i =>
    have hs : i.size = cs.length := by simpa [hq] using hi
    have hagg : (isAgg ty).run P w = .ok true w := by
      unfold isAgg
      rw [Sem.run_bind, run_underlying hu w]
      cases d <;> simp_all
    simp [loadVar, Sem.run_bind, hagg, sizeOf, typeInfo, hq, hs, hl]
theorem wpList_load_list {P : Program} {ops : Array Oper} {rest : List Oper} {o : Oper} {a : Act} {w : World} {Q : Exit → Act → World → Prop} (hgd : o.guard = none) (ty : TypeId) (x : Operand) (ho : o.op = .load ty x)
    (g : Nat) (hx : a.eval x = .pointer (some ⟨g, 0, none⟩)) (cs : List Value) (d : TypeDesc) (hc : ∀ i v, cs[i]? = some v → w.cell? ⟨g, i, none⟩ = some v)
    (hu : P.underlying ty = some d) (hd : (match d with | .struct _ | .array _ _ => true | _ => false) = true) (hi : (P.info? ty).map (·.size) = some cs.length)
    (h : wpList P ops Q rest (a.put o.dst (.agg cs.toArray)) w) : wpList P ops Q (o :: rest) a w :=
  wpList_plain hgd fun _ hK => by
    unfold Oper.wp execOp
    simp only [ho, hx, Instr.loadAt, Instr.sureAddr, Sem.run_bind, Sem.run_pure, Result.andThen_ok, load_list w g ty cs d hc hu hd hi]
    exact hK _ _ h
theorem wp_of_exec {P : Program} {o : Oper} {a : Act} {w w' : World} {v : Value} {K : Act → World → Prop} {Q : Exit → Act → World → Prop} (h : (execOp a.eval o).run P w = .ok (.value v) w') (hk : K (a.put o.dst v) w') : o.wp P a w K Q := by
  unfold Oper.wp
  rw [h]
  exact hk
theorem wp_of_skip {P : Program} {o : Oper} {a : Act} {w w' : World} {K : Act → World → Prop} {Q : Exit → Act → World → Prop} (h : (execOp a.eval o).run P w = .ok .skip w') (hk : K (a.put o.dst undef) w') : o.wp P a w K Q := by
  unfold Oper.wp
  rw [h]
  exact hk
theorem exec_alloc {P : Program} {o : Oper} {ev : Operand → Value} {t : TypeId} {c : Array Value} {w : World} (ho : o.op = .alloc t) (hz : (P.info? t).map (fun i => i.zero.map (·.cells)) = some (some c)) :
    (execOp ev o).run P w = .ok (.value (.pointer (some ⟨w.heap.size, 0, none⟩))) (w.alloc (.cells c t)) := by
  obtain ⟨i, hi, hc⟩ := Option.map_eq_some_iff.1 hz
  obtain ⟨z, hzz, rfl⟩ := Option.map_eq_some_iff.1 hc
  have hzv : (zeroValue t).run P w = .ok z w := by simp [zeroValue, typeInfo, hi, hzz]
  unfold execOp
  simp only [ho, Instr.alloc, Sem.run_bind, hzv, newVar, newRow, run_newObj_alloc, Sem.run_pure, Result.andThen_ok]
theorem exec_store {P : Program} {o : Oper} {ev : Operand → Value} {ty : TypeId} {x y : Operand} {b n : Nat} {G : Nat → Value} {T : TypeId} {F : Nat → Value} {w : World} (ho : o.op = .store ty x y) (hx : ev x = .pointer (some ⟨b, 0, none⟩)) (hy : ev y = .agg (rowOf n G)) (hr : w.rowIs b T n F) (hi : (P.info? ty).map (·.size) = some n) (h1 : ∀ i, i < n → (G i).oneCell' = true) :
    (execOp ev o).run P w = .ok .skip (w.setRow b (rowOf n G)) := by
  obtain ⟨c, hb, hs, hc⟩ := hr
  have hall : (rowOf n G).all (·.oneCell') = true := by
    rw [Array.all_eq_true]
    intro i hi
    rw [rowOf_size] at hi
    have e := rowOf_at (F := G) hi
    rw [Array.getElem?_eq_getElem (by rw [rowOf_size]; exact hi)] at e
    rw [Option.some.inj e]
    exact h1 i hi
  have hst := run_storeVar_row (P := P) w b T ty c (rowOf n G) hb (by rw [hi, rowOf_size]) (by rw [hs, rowOf_size]) hall
  unfold execOp
  simp only [ho, hx, hy, Instr.storeAt, Instr.sureAddr, Sem.run_bind, Sem.run_pure, Result.andThen_ok, hst]
theorem alloc_last (w : World) (c : Array Value) (T : TypeId) : (w.alloc (.cells c T)).heap[w.heap.size]? = some (.cells c T (0, 0)) := Go.Deep.blk_alloc_new _ _
end Go.Proofs.YtpplclenokfpeaaDoor
namespace Go.Proofs.YtpplclenokfpeaaDoor
open Go.RowKit
/-- A state: registers, where it is, its level, whether that is a guest's, registers of control, how many are done. -/
structure StM where
  X : Nat → Int
  pc : Int
  lvl : Int
  v : Bool
  C : Nat → Int
  done : Int
def stF (S : StM) (i : Nat) : Value := if i < 32 then .int .u64 (S.X i) else if i = 32 then .int .u64 S.pc else if i = 33 then .int .i64 S.lvl else if i = 34 then .bool S.v else if i < 64 then .int .u64 (S.C (i - 35)) else .int .u64 S.done
def stV (S : StM) : Value := .agg (rowOf 65 (stF S))
def I64 (x : Int) : Prop := -9223372036854775808 ≤ x ∧ x ≤ 9223372036854775807
structure StM.Ok (S : StM) : Prop where
  X : ∀ i, i < 32 → U (S.X i)
  pc : U S.pc
  lvl : I64 S.lvl
  C : ∀ i, i < 29 → U (S.C i)
  done : U S.done
theorem stF_C (S : StM) {i : Nat} (h : i < 29) : stF S (35 + i) = .int .u64 (S.C i) := by
  unfold stF; rw [if_neg (by omega), if_neg (by omega), if_neg (by omega), if_neg (by omega), if_pos (by omega), Nat.add_sub_cancel_left]
theorem stF_done (S : StM) : stF S 64 = .int .u64 S.done := rfl
theorem stF_one (S : StM) (i : Nat) : (stF S i).oneCell' = true := by
  unfold stF
  split
  · rfl
  · split
    · rfl
    · split
      · rfl
      · split
        · rfl
        · split <;> rfl
/-- A register of control is another one now. -/
def StM.setC (S : StM) (i : Nat) (x : Int) : StM := ⟨S.X, S.pc, S.lvl, S.v, fun j => if j = i then x else S.C j, S.done⟩
theorem StM.setC_at (S : StM) (i : Nat) (x : Int) : (S.setC i x).C i = x := if_pos rfl
theorem StM.setC_other (S : StM) {i j : Nat} (x : Int) (h : j ≠ i) : (S.setC i x).C j = S.C j := if_neg h
theorem StM.setC_set (S : StM) (i : Nat) (x y : Int) : (S.setC i x).setC i y = S.setC i y := by
  unfold StM.setC
  congr 1
  funext j
  simp only
  split <;> rfl
theorem StM.setC_self (S : StM) (i : Nat) : S.setC i (S.C i) = S := by
  unfold StM.setC
  cases S
  congr 1
  funext j
  simp only
  split
  · rename_i e; rw [e]
  · rfl
theorem StM.Ok.setC {S : StM} (h : S.Ok) (i : Nat) {x : Int} (hx : U x) : (S.setC i x).Ok :=
  ⟨h.X, h.pc, h.lvl, fun j hj => by show U (if j = i then x else S.C j); split; exact hx; exact h.C j hj, h.done⟩
theorem stF_setC (S : StM) {i : Nat} (hi : i < 29) (x : Int) (j : Nat) : stF (S.setC i x) j = if j = 35 + i then .int .u64 x else stF S j := by
  by_cases e : j = 35 + i
  · rw [if_pos e, e, stF_C _ hi, StM.setC_at]
  · rw [if_neg e]
    unfold stF
    by_cases h0 : j < 32
    · rw [if_pos h0, if_pos h0]; rfl
    · rw [if_neg h0, if_neg h0]
      by_cases h1 : j = 32
      · rw [if_pos h1, if_pos h1]; rfl
      · rw [if_neg h1, if_neg h1]
        by_cases h2 : j = 33
        · rw [if_pos h2, if_pos h2]; rfl
        · rw [if_neg h2, if_neg h2]
          by_cases h3 : j = 34
          · rw [if_pos h3, if_pos h3]; rfl
          · rw [if_neg h3, if_neg h3]
            by_cases h4 : j < 64
            · rw [if_pos h4, if_pos h4, StM.setC_other _ _ (by omega)]
            · rw [if_neg h4, if_neg h4]; rfl
/-- A block that holds a state. -/
abbrev StAt (w : World) (b : Nat) (S : StM) : Prop := w.rowIs b 27 65 (stF S)
theorem StAt.c {w : World} {b : Nat} {S : StM} (h : StAt w b S) {i : Nat} (hi : i < 29) : w.cell? ⟨b, 35 + i, none⟩ = some (.int .u64 (S.C i)) := by rw [h.cell (by omega), stF_C S hi]
theorem StAt.set {w : World} {b : Nat} {S : StM} (h : StAt w b S) {i : Nat} (hi : i < 29) (x : Int) : StAt (w.setCell ⟨b, 35 + i, none⟩ (.int .u64 x)) b (S.setC i x) :=
  (World.rowIs.set h (35 + i) _).congr fun j _ => by rw [stF_setC S hi]
theorem st_lvl {w : World} {b : Nat} {S : StM} (h : StAt w b S) : w.cell? ⟨b, 33, none⟩ = some (.int .i64 S.lvl) := h.cell (i := 33) (by omega)
theorem st_v {w : World} {b : Nat} {S : StM} (h : StAt w b S) : w.cell? ⟨b, 34, none⟩ = some (.bool S.v) := h.cell (i := 34) (by omega)
theorem st_pc {w : World} {b : Nat} {S : StM} (h : StAt w b S) : w.cell? ⟨b, 32, none⟩ = some (.int .u64 S.pc) := h.cell (i := 32) (by omega)
theorem st_new (w : World) (S : StM) : StAt (w.alloc (.cells (rowOf 65 (stF S)) 27)) w.heap.size S := row_alloc w 65 (stF S) _
theorem st_size : (Tryd.prog.info? 27).map (·.size) = some 65 := by kernel_rfl
theorem wf_U {x : Int} (h : U x) : (Lit.int .u64 x).wf = true := by
  have e1 : IntKind.u64.min = 0 := by decide
  have e2 : IntKind.u64.max = 18446744073709551615 := by decide
  obtain ⟨h0, h1⟩ := h
  simp only [Lit.wf, e1, e2, Bool.and_eq_true, decide_eq_true_eq]
  omega
theorem wf_I {x : Int} (h : I64 x) : (Lit.int .i64 x).wf = true := by
  have e1 : IntKind.i64.min = -9223372036854775808 := by decide
  have e2 : IntKind.i64.max = 9223372036854775807 := by decide
  obtain ⟨h0, h1⟩ := h
  simp only [Lit.wf, e1, e2, Bool.and_eq_true, decide_eq_true_eq]
  omega
theorem mapM_all {α β : Type} (f : α → Option β) (g : α → β) : ∀ (l : List α), (∀ a ∈ l, f a = some (g a)) → l.mapM f = some (l.map g)
  | [], _ => rfl
  | a :: l, h => by
    simp only [List.mapM_cons, h a (by simp), mapM_all f g l fun x hx => h x (by simp [hx])]
    rfl
theorem key_u {d : Nat} {x : Int} (h : U x) : Tryd.prog.keyLits (d + 1) 23 [.int .u64 x] = some [.int .u64 x] := by
  unfold Program.keyLits
  rw [Tryd.underlying23]
  simp [wf_U h]
theorem key_i {d : Nat} {x : Int} (h : I64 x) : Tryd.prog.keyLits (d + 1) 3 [.int .i64 x] = some [.int .i64 x] := by
  unfold Program.keyLits
  rw [Tryd.underlying3]
  simp [wf_I h]
theorem key_b {d : Nat} {x : Bool} : Tryd.prog.keyLits (d + 1) 4 [.bool x] = some [.bool x] := by
  unfold Program.keyLits
  rw [Tryd.underlying4]
theorem chunk {n : Nat} (F : Nat → Value) (o c : Nat) (h : o + c ≤ n) : (((List.range n).map F).drop o).take c = (List.range c).map fun j => F (o + j) := by
  apply List.ext_getElem?
  intro j
  by_cases hj : j < c
  · rw [List.getElem?_take, if_pos hj, List.getElem?_drop, List.getElem?_map, List.getElem?_range (by omega), List.getElem?_map, List.getElem?_range hj]
    rfl
  · rw [List.getElem?_take, if_neg hj, List.getElem?_eq_none (by simp; omega)]
theorem cells_u : Tryd.prog.cellsOf 23 = 1 := by kernel_rfl
theorem cells_i : Tryd.prog.cellsOf 3 = 1 := by kernel_rfl
theorem cells_b : Tryd.prog.cellsOf 4 = 1 := by kernel_rfl
theorem cells_X : Tryd.prog.cellsOf 24 = 32 := by kernel_rfl
theorem cells_C : Tryd.prog.cellsOf 25 = 29 := by kernel_rfl
theorem cells_S : Tryd.prog.cellsOf 27 = 65 := by kernel_rfl
theorem key_row {d : Nat} {T : TypeId} {n : Nat} (hu : Tryd.prog.underlying T = some (.array n 23)) (hc : Tryd.prog.cellsOf T = n) (X : Nat → Int) (hX : ∀ i, i < n → U (X i)) :
    Tryd.prog.keyLits (d + 2) T ((List.range n).map fun i => .int .u64 (X i)) = some ((List.range n).map fun i => [Lit.int .u64 (X i)]).flatten := by
  rw [Program.keyLits.eq_def]
  simp only [hu]
  rw [if_pos (by rw [List.length_map, List.length_range, hc]), mapM_all _ (fun i => [Lit.int .u64 (X i)])]
  · rfl
  · intro i hi
    have hi' : i < n := List.mem_range.1 hi
    rw [cells_u, Nat.mul_one, chunk _ i 1 (by omega)]
    simp only [List.range_one, List.map_cons, List.map_nil, Nat.add_zero]
    exact key_u (hX i hi')
theorem key_state {d : Nat} {S : StM} (h : S.Ok) : ∃ L, Tryd.prog.keyLits (d + 3) 27 ((List.range 65).map (stF S)) = some L := by
  have e0 : Tryd.prog.keyLits (d + 2) 24 ((((List.range 65).map (stF S)).drop 0).take 32) = some ((List.range 32).map fun i => [Lit.int .u64 (S.X i)]).flatten := by
    rw [chunk _ 0 32 (by omega)]
    have e : ((List.range 32).map fun j => stF S (0 + j)) = (List.range 32).map fun i => .int .u64 (S.X i) := List.map_congr_left fun i hi => by
      have hi' : i < 32 := List.mem_range.1 hi
      rw [Nat.zero_add]; unfold stF; rw [if_pos hi']
    rw [e]
    exact key_row Tryd.underlying24 cells_X S.X h.X
  have e1 : Tryd.prog.keyLits (d + 2) 23 ((((List.range 65).map (stF S)).drop 32).take 1) = some [Lit.int .u64 S.pc] := by
    rw [chunk _ 32 1 (by omega)]; exact key_u h.pc
  have e2 : Tryd.prog.keyLits (d + 2) 3 ((((List.range 65).map (stF S)).drop 33).take 1) = some [Lit.int .i64 S.lvl] := by
    rw [chunk _ 33 1 (by omega)]; exact key_i h.lvl
  have e3 : Tryd.prog.keyLits (d + 2) 4 ((((List.range 65).map (stF S)).drop 34).take 1) = some [Lit.bool S.v] := by
    rw [chunk _ 34 1 (by omega)]; exact key_b
  have e4 : Tryd.prog.keyLits (d + 2) 25 ((((List.range 65).map (stF S)).drop 35).take 29) = some ((List.range 29).map fun i => [Lit.int .u64 (S.C i)]).flatten := by
    rw [chunk _ 35 29 (by omega)]
    have e : ((List.range 29).map fun j => stF S (35 + j)) = (List.range 29).map fun i => .int .u64 (S.C i) := List.map_congr_left fun i hi => stF_C S (List.mem_range.1 hi)
    rw [e]
    exact key_row Tryd.underlying25 cells_C S.C h.C
  have e5 : Tryd.prog.keyLits (d + 2) 23 ((((List.range 65).map (stF S)).drop 64).take 1) = some [Lit.int .u64 S.done] := by
    rw [chunk _ 64 1 (by omega)]; exact key_u h.done
  rw [Program.keyLits.eq_def]
  simp only [Tryd.underlying27]
  rw [if_pos ⟨by rw [List.length_map, List.length_range, cells_S], by kernel_rfl⟩]
  simp only [List.mapM_cons, List.mapM_nil, cells_X, cells_u, cells_i, cells_b, cells_C, e0, e1, e2, e3, e4, e5, Option.pure_def, Option.bind_eq_bind, Option.bind_some, Option.map_some]
  exact ⟨_, rfl⟩
/-- A state is equal to itself. -/
theorem eq_state {S : StM} (h : S.Ok) (w : World) : (Op.equalIn 10000 27 (.agg (rowOf 65 (stF S))) (.agg (rowOf 65 (stF S)))).run Tryd.prog w = .ok true w := by
  obtain ⟨L, hL⟩ := key_state (d := 0) h
  have hf : (Value.agg (rowOf 65 (stF S))).formed Tryd.prog 27 = true := by simp [Value.formed, Tryd.underlying27, rowOf_size, cells_S]
  obtain ⟨r, hr, hi⟩ := run_equalIn_deep (P := Tryd.prog) 9997 3 27 (by kernel_rfl) w _ _ _ _ L L hf hf hL hL
  rw [hi.2 rfl] at hr
  exact hr
end Go.Proofs.YtpplclenokfpeaaDoor
