/-
  An instruction that comes in: its six numbers; what it reads as behind the call.
-/
import Derived.Test.YtkijdogckfpdpaaDoorLaid
import Derived.Test.YtkijdogckfpdpaaDoorBase
import Derived.WalkKit
import Derived.ProofKit
import Derived.OpenShut
import Derived.ChangeMaps5
namespace Go.Proofs.YtkijdogckfpdpaaDoor
open Go.ChangeShapes Go.WideShapes Go.ChangeAt Go.RowKit Go.ChangeMaps
theorem list6 {α : Type} {l : List α} (h : l.length = 6) : ∃ a b c d e f, l = [a, b, c, d, e, f] := by
  match l, h with
  | [a, b, c, d, e, f], _ => exact ⟨a, b, c, d, e, f, rfl⟩
theorem cells3 : Tryd.prog.cellsOf 3 = 1 := by kernel_rfl
theorem cells2 : Tryd.prog.cellsOf 2 = 1 := by kernel_rfl
theorem again {H : Type} {enc : TypeId × Value → H} {w w' : World} {base : Nat} {sp sp' : Nat → Bool} {held : Bool} {n : Nat} {t : TypeId} {v : Value} {d : DataW H} {p : List MemPlace}
    (hp : plainT Tryd.prog n t = true) (h : DataW.Trod enc Tryd.prog w base sp held t v d p) : DataW.Trod enc Tryd.prog w' base sp' held t v d p := by
  obtain ⟨fuel, hf⟩ := h
  exact ⟨fuel, plain_again n fuel t _ _ hp hf⟩
end Go.Proofs.YtkijdogckfpdpaaDoor
