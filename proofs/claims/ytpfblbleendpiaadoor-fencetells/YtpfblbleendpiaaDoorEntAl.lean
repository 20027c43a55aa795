/-
  Entries and faults compared, loaded and stored whole; what lies in a block. Plain facts: no call of the program is walked here.
-/
import Derived.Test.YtpfblbleendpiaaDoorEntDoc
import Derived.Test.YtpfblbleendpiaaDoorRowIs
import Derived.Laws.StructEq
namespace Go.Proofs.YtpfblbleendpiaaDoor
open Go.RowKit
theorem eq_ent (e : EntM) (w : World) : (binOp .eql 47 (.agg (entA e).toArray) (.agg (entA e).toArray)).run Tryd.prog w = Result.ok (.bool true) w := by
  unfold entA
  simp [go_sem]
theorem ent_size' (e : EntM) : (Tryd.prog.info? 47).map (·.size) = some (entA e).toArray.size := by
  rw [show (entA e).toArray.size = 9 from rfl]
  kernel_rfl
theorem ent_ones' (e : EntM) : (entA e).toArray.all (·.oneCell') = true := by simp [entA, Value.oneCell']
theorem flt_ones' (f : FltM) : (fltA f).toArray.all (·.oneCell') = true := by simp [fltA, Value.oneCell']
/-- What lies in a block. -/
abbrev Blk (w : World) (b : Nat) (T : TypeId) (cs : Array Value) : Prop := w.heap[b]? = some (.cells cs T (0, 0))
theorem Blk.cell {w : World} {b : Nat} {T : TypeId} {cs : Array Value} (h : Blk w b T cs) (i : Nat) : w.cell? ⟨b, i, none⟩ = cs[i]? := by
  simp [World.cell?, h]
theorem Blk.all {w : World} {b : Nat} {T : TypeId} {cs : Array Value} (h : Blk w b T cs) : ∀ i v, cs.toList[i]? = some v → w.cell? ⟨b, i, none⟩ = some v := fun i v hi => by
  rw [h.cell i, ← Array.getElem?_toList]
  exact hi
/-- A block loaded whole, guarded or not. -/
theorem wpList_load_blk {P : Program} {ops : Array Oper} {rest : List Oper} {o : Oper} {a : Act} {w : World} {Q : Exit → Act → World → Prop} (hw : Region.wanted o (yielded ops a.tmps) = true) (ty : TypeId) (x : Operand) (ho : o.op = .load ty x)
    (g : Nat) (hx : a.eval x = .pointer (some ⟨g, 0, none⟩)) {cs : Array Value} {T : TypeId} (hb : Blk w g T cs) (d : TypeDesc)
    (hu : P.underlying ty = some d) (hd : (match d with | .struct _ | .array _ _ => true | _ => false) = true) (hi : (P.info? ty).map (·.size) = some cs.size)
    (h : wpList P ops Q rest (a.put o.dst (.agg cs)) w) : wpList P ops Q (o :: rest) a w :=
  BigFrame.wpList_want hw fun _ hK => by
    unfold Oper.wp execOp
    simp only [ho, hx, Instr.loadAt, Instr.sureAddr, Sem.run_bind, Sem.run_pure, Result.andThen_ok, load_list w g ty cs.toList d hb.all hu hd hi]
    exact hK _ _ h
/-- A new variable: the walk goes on over a world of which this alone is known. -/
theorem wpList_alloc_go {P : Program} {ops : Array Oper} {rest : List Oper} {o : Oper} {a : Act} {w : World} {Q : Exit → Act → World → Prop} (hg : o.guard = none) (t : TypeId) (ho : o.op = .alloc t) (c : Array Value)
    (hz : (P.info? t).map (fun i => i.zero.map (·.cells)) = some (some c)) (h : ∀ b w', w.heap.size = b → Kept w w' → w'.heap.size = b + 1 → Blk w' b t c → wpList P ops Q rest (a.put o.dst (.pointer (some ⟨b, 0, none⟩))) w') : wpList P ops Q (o :: rest) a w :=
  wpList_alloc_is hg t ho c hz (h _ _ rfl ((Only.refl _ w).alloc _) (Go.Deep.nblk_alloc _ _) (alloc_last w c t))
/-- A block stored whole: likewise. -/
theorem wpList_store_go {P : Program} {ops : Array Oper} {rest : List Oper} {o : Oper} {a : Act} {w : World} {Q : Exit → Act → World → Prop} (hgd : o.guard = none) (ty : TypeId) (x y : Operand) (ho : o.op = .store ty x y)
    (b : Nat) (cells : Array Value) (hx : a.eval x = .pointer (some ⟨b, 0, none⟩)) (hy : a.eval y = .agg cells) {T : TypeId} {old : Array Value} (hb : Blk w b T old)
    (hi : (P.info? ty).map (·.size) = some cells.size) (hs : old.size = cells.size) (h1 : cells.all (·.oneCell') = true)
    (h : ∀ w', Only (fun i => i = b) w w' → Blk w' b T cells → wpList P ops Q rest (a.put o.dst undef) w') : wpList P ops Q (o :: rest) a w :=
  wpList_store_row hgd ty x y ho b cells hx hy T old hb hi hs h1 (h _ (Only.setRow (Only.refl (fun i => i = b) w) (g := b) rfl cells) (setRow_heap w b old cells T (0, 0) hb))
theorem ent_zero' : (Tryd.prog.info? 47).map (fun i => i.zero.map (·.cells)) = some (some (entA entNone).toArray) := by kernel_rfl
theorem ent_len (e : EntM) : (entA e).toArray.size = 9 := rfl
theorem flt_len (f : FltM) : (fltA f).toArray.size = 4 := rfl
/-- The same two, at one operation of a region that draws its order. -/
theorem wp_alloc_go {P : Program} {o : Oper} {a : Act} {w : World} {K : Act → World → Prop} {Q : Exit → Act → World → Prop} (t : TypeId) (ho : o.op = .alloc t) (c : Array Value)
    (hz : (P.info? t).map (fun i => i.zero.map (·.cells)) = some (some c)) (h : ∀ b w', w.heap.size = b → Kept w w' → w'.heap.size = b + 1 → Blk w' b t c → K (a.put o.dst (.pointer (some ⟨b, 0, none⟩))) w') : o.wp P a w K Q :=
  wp_of_exec (exec_alloc ho hz) (h _ _ rfl ((Only.refl _ w).alloc _) (Go.Deep.nblk_alloc _ _) (alloc_last w c t))
theorem wp_store_go {P : Program} {o : Oper} {a : Act} {w : World} {K : Act → World → Prop} {Q : Exit → Act → World → Prop} (ty : TypeId) (x y : Operand) (ho : o.op = .store ty x y)
    (b : Nat) (cells : Array Value) (hx : a.eval x = .pointer (some ⟨b, 0, none⟩)) (hy : a.eval y = .agg cells) {T : TypeId} {old : Array Value} (hb : Blk w b T old)
    (hi : (P.info? ty).map (·.size) = some cells.size) (hs : old.size = cells.size) (h1 : cells.all (·.oneCell') = true)
    (h : ∀ w', Only (fun i => i = b) w w' → Blk w' b T cells → K (a.put o.dst undef) w') : o.wp P a w K Q := by
  have hst := run_storeVar_row (P := P) w b T ty old cells hb hi hs h1
  refine wp_of_skip (w' := w.setRow b cells) ?_ (h _ (Only.setRow (Only.refl (fun i => i = b) w) (g := b) rfl cells) (setRow_heap w b old cells T (0, 0) hb))
  unfold execOp
  simp only [ho, hx, hy, Instr.storeAt, Instr.sureAddr, Sem.run_bind, Sem.run_pure, Result.andThen_ok, hst]
theorem Blk.past {w w' : World} {b c : Nat} {T : TypeId} {cs : Array Value} (h : Blk w b T cs) (g : Only (fun i => i = c) w w') (hn : b ≠ c) : Blk w' b T cs := g.block h hn
theorem Blk.kept {w w' : World} {b : Nat} {T : TypeId} {cs : Array Value} (h : Blk w b T cs) (g : Kept w w') : Blk w' b T cs := g.block h id
theorem Blk.lt {w : World} {b : Nat} {T : TypeId} {cs : Array Value} (h : Blk w b T cs) : b < w.heap.size := (Array.getElem?_eq_some_iff.1 h).1
end Go.Proofs.YtpfblbleendpiaaDoor
