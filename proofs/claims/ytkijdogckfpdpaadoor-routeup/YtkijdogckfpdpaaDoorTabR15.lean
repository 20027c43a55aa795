/-
  What the listed table of stage 15 gives the walks: its cells, one behind the other.
-/
import Derived.Test.YtkijdogckfpdpaaDoorTRou
import Derived.LaidMore
import Derived.ProofKit
import Derived.OpenShut
namespace Go.Proofs.YtkijdogckfpdpaaDoor
open Go.RowKit
theorem gn0 : Tryd.prog.globalNamed "sallyport/route.order" = some 0 := by kernel_rfl
theorem gt0 : (Tryd.prog.globals[0]?).map (·.type) = some 42 := by kernel_rfl
theorem tab_of_laid {W : World} (h : laidMetH Tryd.prog [("sallyport/route.order", Rows.laid_sallyport_route_order)] W) : Tab15 W := by
  rw [MakeChecks.laidMetH_plain _ _ _ (by kernel_rfl)] at h
  obtain ⟨ps, ⟨g0, t0, cs0, f0, p0, q0, hg0, ht0, hv0, hd0, _, _⟩, _, _⟩ := h
  obtain rfl := Option.some.inj (gn0.symm.trans hg0)
  obtain rfl := Option.some.inj (gt0.symm.trans ht0)
  have e0 := flat_of_trod 4 _ _ _ _ (by kernel_rfl) hd0
  refine ⟨?_⟩
  intro i v hi
  rw [World.var?_cell hg0 hv0 i]
  rw [show ordL = cs0.toList from e0.symm] at hi
  simpa using hi
theorem door_met (os : Os) (args : Array Value) : laidMetH Tryd.prog [("sallyport/route.order", Rows.laid_sallyport_route_order)] ((World.doorLaid Tryd.prog 400 os).forCall (fun _ _ => 0) ⟨#[], args, []⟩).memory :=
  laidMetH_of_parts3 (fuel := 8) (laidMet_of_run' 8 (by kernel_rfl) (by kernel_rfl)) (by kernel_rfl) (by kernel_rfl)
end Go.Proofs.YtkijdogckfpdpaaDoor
