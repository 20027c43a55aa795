/-
  What package mem's Lay, Frame, Same and Copy do (the landed package's): walked whole, for every argument.
-/
import Derived.Test.YtpplclenokfpeaaDoorTWrite
import Derived.Test.YtpplclenokfpeaaDoorRefLay
namespace Go.Proofs.YtpplclenokfpeaaDoor
open Go.RowKit
theorem MemAt.drew {T E : TypeId} {w : World} {p q : Nat} {B : Nat → Int} (h : MemAt T E w p q B) : MemAt T E w.drew p q B := ⟨h.obj, h.row.drew, h.byte⟩
/-- Nothing copied. -/
theorem copy_none (ad : Option Addr) (c : Nat) (w : World) : (Builtin.copy_ #[56, 9] 3 #[.slice ad 0 c, .string ⟨#[]⟩]).run Tryd.prog w = .ok (goInt 0) w := by
  have hu : Tryd.prog.underlying 56 = some (.slice 5) := by kernel_rfl
  have hs : (Tryd.prog.info? 5).map (·.size) = some 1 := by kernel_rfl
  cases hq : Tryd.prog.info? 5 with
  | none => simp [hq] at hs
  | some i =>
    cases ad <;> simp [Builtin.copy_, run_underlying hu, Builtin.lenOf, Builtin.firstCells, sizeOf, typeInfo, hq, storeCells]
end Go.Proofs.YtpplclenokfpeaaDoor
