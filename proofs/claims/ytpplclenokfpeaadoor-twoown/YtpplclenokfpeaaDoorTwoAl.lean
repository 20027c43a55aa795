/-
  Whether what was kept lets an access through, as the document tells it; askings that are compared. Plain facts: no call of the program is walked here.
-/
import Derived.Test.YtpplclenokfpeaaDoorTrDoc
import Derived.Test.YtpplclenokfpeaaDoorEntAl
namespace Go.Proofs.YtpplclenokfpeaaDoor
open Go.RowKit
/-- An entry as a translation leaves it. -/
structure EntM.Ok (e : EntM) : Prop where
  page : 0 ≤ e.page ∧ e.page < 256
  asid : 0 ≤ e.asid ∧ e.asid < 256
  vmid : 0 ≤ e.vmid ∧ e.vmid < 256
  frame : 0 ≤ e.frame ∧ e.frame < 256
  bits : 0 ≤ e.bits ∧ e.bits < 256
  host : 0 ≤ e.host ∧ e.host < 256
  guest : 0 ≤ e.guest ∧ e.guest < 256
structure AlwM where
  f : FltM
  ok : Bool
/-- Whether an entry lets an access through. -/
def alwS (S : StM) (e : EntM) (at_ k level : Int) (v : Bool) : AlwM :=
  if ¬ e.bits = 255 ∧ mayE e.bits k (level == 0) (askS S level v).sum (askS S level v).mxr = false then ⟨⟨pageC k, at_, 0, v⟩, false⟩ else
  if ¬ e.host = 255 ∧ mayE e.host k true false false = false then ⟨⟨gfC k, at_, (e.guest * 256 + at_ % 256) / 4, v⟩, false⟩ else
  ⟨fltNone, true⟩
theorem eq_ask (a : AskM) (w : World) : (binOp .eql 46 (.agg (askA a)) (.agg (askA a))).run Tryd.prog w = Result.ok (.bool true) w := by
  unfold askA
  simp [go_sem]
theorem ask_zero' : (Tryd.prog.info? 46).map (fun i => i.zero.map (·.cells)) = some (some (askA ⟨false, false, false, false, 0, 0, 0, 0⟩)) := by kernel_rfl
theorem ask_len (a : AskM) : (askA a).size = 8 := rfl
end Go.Proofs.YtpplclenokfpeaaDoor
