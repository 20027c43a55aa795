/-
  What is dropped, as the document's own call answers: walked whole, for every argument.
-/
import Derived.Test.YtpfblbleendpiaaDoorRefTl3
import Derived.Test.YtpfblbleendpiaaDoorEqEnt
namespace Go.Proofs.YtpfblbleendpiaaDoor
open Go.RowKit
theorem eq_guard9 (e f : EntM) (x y : Operand) (w : World) : (eqGuard .eql 47 x y (.agg (entA e).toArray) (.agg (entA f).toArray)).run Tryd.prog w = .ok () w := by
  unfold eqGuard
  simp [go_sem]
theorem exec_eqE {o : Oper} {ev : Operand → Value} {u : TypeId} {x y : Operand} {e f : EntM} {w : World} (ho : o.op = .binOp .eql 47 x y u) (hx : ev x = .agg (entA e).toArray) (hy : ev y = .agg (entA f).toArray) :
    (execOp ev o).run Tryd.prog w = .ok (.value (.bool (eqE e f))) w := by
  unfold execOp
  simp only [ho, hx, hy, Sem.run_bind, eq_guard9, eq_ent2, Result.andThen_ok, Sem.run_pure]
section
variable {w : World} {b : Nat} {T : Nat → EntM}
theorem drop_no (T : Nat → EntM) (e : EntM) (h : findF (sameP T e) 16 0 = -1) : dropT T e = T ∧ decide (0 ≤ dropI T e) = false := by
  have hd : dropI T e = -1 := h
  unfold dropT
  rw [hd]
  exact ⟨if_pos (by omega), by decide⟩
theorem drop_yes (T : Nat → EntM) (e : EntM) {k : Nat} (h : findF (sameP T e) 16 0 = (k : Int)) : dropT T e = setT T k entNone ∧ decide (0 ≤ dropI T e) = true := by
  have hd : dropI T e = (k : Int) := h
  unfold dropT
  rw [hd]
  exact ⟨if_neg (by omega), decide_eq_true (by omega)⟩
end
end Go.Proofs.YtpfblbleendpiaaDoor
