/-
  Two entries compared, whatever they hold.
-/
import Derived.Test.YtpfblbleendpiaaDoorTlDoc
namespace Go.Proofs.YtpfblbleendpiaaDoor
open Go.RowKit
theorem eq_ent2 (e f : EntM) (w : World) : (binOp .eql 47 (.agg (entA e).toArray) (.agg (entA f).toArray)).run Tryd.prog w = Result.ok (.bool (eqE e f)) w := by
  unfold entA eqE
  simp [go_sem]
  repeat' split
  all_goals simp [*]
theorem run_loadVar_cell9 {w : World} {b o : Nat} {v : Value} {ty : TypeId} {d : TypeDesc} (h : w.cell? ⟨b, o, none⟩ = some v) (hd : (match d with | .struct _ | .array _ _ => false | _ => true) = true) (hu : Tryd.prog.underlying ty = some d) : (loadVar ty ⟨b, o, none⟩).run Tryd.prog w = .ok v w := by
  have hagg : (isAgg ty).run Tryd.prog w = .ok false w := by
    unfold isAgg
    rw [Sem.run_bind, run_underlying hu w]
    cases d <;> simp_all
  simp [loadVar, Sem.run_bind, hagg, h, go_sem]
end Go.Proofs.YtpfblbleendpiaaDoor
