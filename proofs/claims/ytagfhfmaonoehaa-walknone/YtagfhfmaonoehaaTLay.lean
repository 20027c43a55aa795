/-
  What package mem's Lay, Frame, Same and Copy do (the landed package's): walked whole, for every argument.
-/
import Derived.Test.YtagfhfmaonoehaaTWrite
import Derived.Test.YtagfhfmaonoehaaRefLay
namespace Go.Proofs.Ytagfhfmaonoehaa
open Go.RowKit
theorem MemAt.drew {T E : TypeId} {w : World} {p q : Nat} {B : Nat → Int} (h : MemAt T E w p q B) : MemAt T E w.drew p q B := ⟨h.obj, h.row.drew, h.byte⟩
/-- Nothing copied. -/
theorem copy_none (ad : Option Addr) (c : Nat) (w : World) : (Builtin.copy_ #[40, 9] 3 #[.slice ad 0 c, .string ⟨#[]⟩]).run Try.prog w = .ok (goInt 0) w := by
  have hu : Try.prog.underlying 40 = some (.slice 5) := by kernel_rfl
  have hs : (Try.prog.info? 5).map (·.size) = some 1 := by kernel_rfl
  cases hq : Try.prog.info? 5 with
  | none => simp [hq] at hs
  | some i =>
    cases ad <;> simp [Builtin.copy_, run_underlying hu, Builtin.lenOf, Builtin.firstCells, sizeOf, typeInfo, hq, storeCells]
end Go.Proofs.Ytagfhfmaonoehaa
