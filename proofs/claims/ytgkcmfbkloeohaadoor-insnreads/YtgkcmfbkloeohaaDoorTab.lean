/-
  What the listed table gives the walks: its cells, one behind the other.
-/
import Derived.Test.YtgkcmfbkloeohaaDoorFace
import Derived.LaidMore
import Derived.ProofKit
import Derived.OpenShut
namespace Go.Proofs.YtgkcmfbkloeohaaDoor
open Go.RowKit
theorem gGroups : Tryd.prog.globalNamed "sallyport/insn.groups" = some 0 := by kernel_rfl
theorem tGroups : (Tryd.prog.globals[0]?).map (·.type) = some 47 := by kernel_rfl
theorem tab_of_laid {W : World} (h : laidMetH Tryd.prog [("sallyport/insn.groups", Rows.laid_sallyport_insn_groups)] W) : Tab W := by
  rw [MakeChecks.laidMetH_plain _ _ _ (by kernel_rfl)] at h
  obtain ⟨ps, ⟨g0, t0, cs0, f0, p0, q0, hg0, ht0, hv0, hd0, _, _⟩, _, _⟩ := h
  obtain rfl := Option.some.inj (gGroups.symm.trans hg0)
  obtain rfl := Option.some.inj (tGroups.symm.trans ht0)
  have e := flat_of_trod 4 _ _ _ _ (by kernel_rfl) hd0
  intro i v hi
  rw [World.var?_cell hg0 hv0 i]
  rw [show gL = cs0.toList from e.symm] at hi
  simpa using hi
theorem door_met (os : Os) (args : Array Value) : laidMetH Tryd.prog [("sallyport/insn.groups", Rows.laid_sallyport_insn_groups)] ((World.doorLaid Tryd.prog 400 os).forCall (fun _ _ => 0) ⟨#[], args, []⟩).memory :=
  laidMetH_of_parts3 (fuel := 8) (laidMet_of_run' 8 (by kernel_rfl) (by kernel_rfl)) (by kernel_rfl) (by kernel_rfl)
end Go.Proofs.YtgkcmfbkloeohaaDoor
