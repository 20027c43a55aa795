/-
  An instruction that comes in: its six numbers; what it reads as behind the call.
-/
import Derived.Test.YtpfblbleendpiaaDoorLaid
import Derived.Test.YtpfblbleendpiaaDoorBase
import Derived.WalkKit
import Derived.ProofKit
import Derived.OpenShut
import Derived.ChangeMaps5
namespace Go.Proofs.YtpfblbleendpiaaDoor
open Go.ChangeShapes Go.WideShapes Go.ChangeAt Go.RowKit Go.ChangeMaps
theorem list6 {α : Type} {l : List α} (h : l.length = 6) : ∃ a b c d e f, l = [a, b, c, d, e, f] := by
  match l, h with
  | [a, b, c, d, e, f], _ => exact ⟨a, b, c, d, e, f, rfl⟩
theorem plain23 : plainT Tryd.prog 2 29 = true := by kernel_rfl
theorem cells23 : Tryd.prog.cellsOf 29 = 6 := by kernel_rfl
theorem cells3 : Tryd.prog.cellsOf 3 = 1 := by kernel_rfl
theorem cells2 : Tryd.prog.cellsOf 2 = 1 := by kernel_rfl
set_option maxRecDepth 100000 in
theorem open_insn {H : Type} {enc : TypeId × Value → H} {w : World} {r : Reach} {b0 base : Nat} {sp : Nat → Bool} {held : Bool} {v : Value} {d : DataW H} {p : List MemPlace}
    (hv : Value.okWide Tryd.prog w r b0 29 v) (h : DataW.Trod enc Tryd.prog w base sp held 29 v d p) :
    ∃ a0 a1 a2 a3 a4 a5 : Int, v = .agg #[.int .i64 a0, .int .i64 a1, .int .i64 a2, .int .i64 a3, .int .i64 a4, .int .i64 a5] ∧ p = [] ∧
      (Lit.int .i64 a0).wf = true ∧ (Lit.int .i64 a1).wf = true ∧ (Lit.int .i64 a2).wf = true ∧ (Lit.int .i64 a3).wf = true ∧ (Lit.int .i64 a4).wf = true ∧ (Lit.int .i64 a5).wf = true := by
  obtain ⟨⟨l⟩, rfl, hsz⟩ := okWide_struct Tryd.underlying29 hv
  rw [cells23] at hsz
  obtain ⟨c0, c1, c2, c3, c4, c5, rfl⟩ := list6 (show l.length = 6 from hsz)
  obtain ⟨fuel, hf⟩ := h
  have hp := plain_places 2 fuel 29 _ _ plain23 hf
  obtain ⟨xs, n, _, hx, _, hlen, hel⟩ := DataW.trod_struct Tryd.underlying29 hf
  obtain ⟨y0, y1, y2, y3, y4, y5, rfl⟩ := list6 (show xs.length = 6 from hlen)
  obtain ⟨a0, e0, _, w0⟩ := DataW.trod_int Tryd.underlying3 (by simpa using hel 0 _ rfl)
  obtain ⟨a1, e1, _, w1⟩ := DataW.trod_int Tryd.underlying3 (by simpa using hel 1 _ rfl)
  obtain ⟨a2, e2, _, w2⟩ := DataW.trod_int Tryd.underlying3 (by simpa using hel 2 _ rfl)
  obtain ⟨a3, e3, _, w3⟩ := DataW.trod_int Tryd.underlying3 (by simpa using hel 3 _ rfl)
  obtain ⟨a4, e4, _, w4⟩ := DataW.trod_int Tryd.underlying2 (by simpa using hel 4 _ rfl)
  obtain ⟨a5, e5, _, w5⟩ := DataW.trod_int Tryd.underlying3 (by simpa using hel 5 _ rfl)
  simp [Value.cells, cells3, cells2] at e0 e1 e2 e3 e4 e5
  subst e0 e1 e2 e3 e4 e5
  exact ⟨a0, a1, a2, a3, a4, a5, rfl, hp, w0, w1, w2, w3, w4, w5⟩
theorem again {H : Type} {enc : TypeId × Value → H} {w w' : World} {base : Nat} {sp sp' : Nat → Bool} {held : Bool} {n : Nat} {t : TypeId} {v : Value} {d : DataW H} {p : List MemPlace}
    (hp : plainT Tryd.prog n t = true) (h : DataW.Trod enc Tryd.prog w base sp held t v d p) : DataW.Trod enc Tryd.prog w' base sp' held t v d p := by
  obtain ⟨fuel, hf⟩ := h
  exact ⟨fuel, plain_again n fuel t _ _ hp hf⟩
end Go.Proofs.YtpfblbleendpiaaDoor
