/-
  What is read and written of the document's registers of control (Read, Write of the reference): walked whole, for every argument.
-/
import Derived.Test.YtkijdogckfpdpaaDoorRefCsr2
import Derived.Deep.RegionHeld3
namespace Go.Proofs.YtkijdogckfpdpaaDoor
open Go.RowKit
theorem StAt.kept {w w' : World} {b : Nat} {S : StM} (h : StAt w b S) (g : Kept w w') : StAt w' b S := World.rowIs.of_block h (g.same b (World.rowIs.lt h) id)
theorem StAt.more {w : World} {b : Nat} {S : StM} (h : StAt w b S) (o : Obj) : StAt (w.alloc o) b S := World.rowIs.alloc h o
theorem kept_boxed {w w1 : World} {o : Obj} (g : Kept (w.alloc o) w1) : Kept w w1 := ((Only.refl _ w).alloc o).then g
theorem rdC_in {S : StM} {n : Int} {i : Nat} (h : idxI n = i) : rdC S n = S.C i ∧ okC n = true := by
  have h0 : 0 ≤ idxI n := by omega
  refine ⟨?_, decide_eq_true (.inl h0)⟩
  unfold rdC; rw [if_pos h0, h, Int.toNat_natCast]
theorem idx_256 : idxI 256 = -1 := by decide +kernel
theorem idx_260 : idxI 260 = -1 := by decide +kernel
theorem idx_516 : idxI 516 = -1 := by decide +kernel
theorem idx_3074 : idxI 3074 = -1 := by decide +kernel
section
variable {S : StM}
end
end Go.Proofs.YtkijdogckfpdpaaDoor
