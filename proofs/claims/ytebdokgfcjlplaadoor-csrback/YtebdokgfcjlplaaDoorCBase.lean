/-
  What statement CsrBack asks: walked for every argument.
-/
import Derived.Test.YtebdokgfcjlplaaDoorCNumbers
namespace Go.Proofs.YtebdokgfcjlplaaDoor
open Go.RowKit
theorem row_set (S : StM) {k : Nat} (hk : k < 29) (x : Int) : (rowOf 65 (stF S)).setIfInBounds (35 + k) (.int .u64 x) = rowOf 65 (stF (S.setC k x)) := by
  apply Array.ext_getElem?
  intro j
  rw [Array.getElem?_setIfInBounds, rowOf_size]
  by_cases hj : j < 65
  · rw [rowOf_at hj, rowOf_at hj, stF_setC S hk]
    by_cases e : j = 35 + k
    · rw [if_pos e.symm, if_pos (by omega), if_pos e]
    · rw [if_neg (fun h => e h.symm), if_neg e]
  · rw [if_neg (by omega), Array.getElem?_eq_none (by rw [rowOf_size]; omega), Array.getElem?_eq_none (by rw [rowOf_size]; omega)]
theorem wp_of_exec {P : Program} {o : Oper} {a : Act} {w w' : World} {v : Value} {K : Act → World → Prop} {Q : Exit → Act → World → Prop} (h : (execOp a.eval o).run P w = .ok (.value v) w') (hk : K (a.put o.dst v) w') : o.wp P a w K Q := by
  unfold Oper.wp
  rw [h]
  exact hk
theorem wp_of_skip {P : Program} {o : Oper} {a : Act} {w w' : World} {K : Act → World → Prop} {Q : Exit → Act → World → Prop} (h : (execOp a.eval o).run P w = .ok .skip w') (hk : K (a.put o.dst undef) w') : o.wp P a w K Q := by
  unfold Oper.wp
  rw [h]
  exact hk
theorem exec_alloc {P : Program} {o : Oper} {ev : Operand → Value} {t : TypeId} {c : Array Value} {w : World} (ho : o.op = .alloc t) (hz : (P.info? t).map (fun i => i.zero.map (·.cells)) = some (some c)) :
    (execOp ev o).run P w = .ok (.value (.pointer (some ⟨w.heap.size, 0, none⟩))) (w.alloc (.cells c t)) := by
  obtain ⟨i, hi, hc⟩ := Option.map_eq_some_iff.1 hz
  obtain ⟨z, hzz, rfl⟩ := Option.map_eq_some_iff.1 hc
  have hzv : (zeroValue t).run P w = .ok z w := by simp [zeroValue, typeInfo, hi, hzz]
  unfold execOp
  simp only [ho, Instr.alloc, Sem.run_bind, hzv, newVar, newRow, run_newObj_alloc, Sem.run_pure, Result.andThen_ok]
theorem exec_store {P : Program} {o : Oper} {ev : Operand → Value} {ty : TypeId} {x y : Operand} {b n : Nat} {G : Nat → Value} {T : TypeId} {F : Nat → Value} {w : World} (ho : o.op = .store ty x y) (hx : ev x = .pointer (some ⟨b, 0, none⟩)) (hy : ev y = .agg (rowOf n G)) (hr : w.rowIs b T n F) (hi : (P.info? ty).map (·.size) = some n) (h1 : ∀ i, i < n → (G i).oneCell' = true) :
    (execOp ev o).run P w = .ok .skip (w.setRow b (rowOf n G)) := by
  obtain ⟨c, hb, hs, hc⟩ := hr
  have hall : (rowOf n G).all (·.oneCell') = true := by
    rw [Array.all_eq_true]
    intro i hi
    rw [rowOf_size] at hi
    have e := rowOf_at (F := G) hi
    rw [Array.getElem?_eq_getElem (by rw [rowOf_size]; exact hi)] at e
    rw [Option.some.inj e]
    exact h1 i hi
  have hst := run_storeVar_row (P := P) w b T ty c (rowOf n G) hb (by rw [hi, rowOf_size]) (by rw [hs, rowOf_size]) hall
  unfold execOp
  simp only [ho, hx, hy, Instr.storeAt, Instr.sureAddr, Sem.run_bind, Sem.run_pure, Result.andThen_ok, hst]
end Go.Proofs.YtebdokgfcjlplaaDoor
