/-
  What the listed tables of stage 8 give the walks: their cells, one behind the other.
-/
import Derived.Test.YtebdokgfcjlplaaDoorTTab8
import Derived.LaidMore
import Derived.ProofKit
import Derived.OpenShut
namespace Go.Proofs.YtebdokgfcjlplaaDoor
open Go.RowKit
theorem gn0 : Tryd.prog.globalNamed "sallyport/csr.registers" = some 0 := by kernel_rfl
theorem gt0 : (Tryd.prog.globals[0]?).map (·.type) = some 49 := by kernel_rfl
theorem gn1 : Tryd.prog.globalNamed "sallyport/csr.views" = some 2 := by kernel_rfl
theorem gt1 : (Tryd.prog.globals[2]?).map (·.type) = some 57 := by kernel_rfl
theorem gn2 : Tryd.prog.globalNamed "sallyport/csr.guests" = some 1 := by kernel_rfl
theorem gt2 : (Tryd.prog.globals[1]?).map (·.type) = some 55 := by kernel_rfl
theorem tab_of_laid {W : World} (h : laidMetH Tryd.prog [("sallyport/csr.registers", Rows.laid_sallyport_csr_registers), ("sallyport/csr.views", Rows.laid_sallyport_csr_views), ("sallyport/csr.guests", Rows.laid_sallyport_csr_guests)] W) : Tab8 W := by
  rw [MakeChecks.laidMetH_plain _ _ _ (by kernel_rfl)] at h
  obtain ⟨ps, ⟨g0, t0, cs0, f0, p0, q0, hg0, ht0, hv0, hd0, ⟨g1, t1, cs1, f1, p1, q1, hg1, ht1, hv1, hd1, ⟨g2, t2, cs2, f2, p2, q2, hg2, ht2, hv2, hd2, _, _⟩, _⟩, _⟩, _, _⟩ := h
  obtain rfl := Option.some.inj (gn0.symm.trans hg0)
  obtain rfl := Option.some.inj (gt0.symm.trans ht0)
  have e0 := flat_of_trod 4 _ _ _ _ (by kernel_rfl) hd0
  obtain rfl := Option.some.inj (gn1.symm.trans hg1)
  obtain rfl := Option.some.inj (gt1.symm.trans ht1)
  have e1 := flat_of_trod 4 _ _ _ _ (by kernel_rfl) hd1
  obtain rfl := Option.some.inj (gn2.symm.trans hg2)
  obtain rfl := Option.some.inj (gt2.symm.trans ht2)
  have e2 := flat_of_trod 4 _ _ _ _ (by kernel_rfl) hd2
  refine ⟨?_, ?_, ?_⟩
  · intro i v hi
    rw [World.var?_cell hg0 hv0 i]
    rw [show regL = cs0.toList from e0.symm] at hi
    simpa using hi
  · intro i v hi
    rw [World.var?_cell hg1 hv1 i]
    rw [show vieL = cs1.toList from e1.symm] at hi
    simpa using hi
  · intro i v hi
    rw [World.var?_cell hg2 hv2 i]
    rw [show gueL = cs2.toList from e2.symm] at hi
    simpa using hi
theorem door_met (os : Os) (args : Array Value) : laidMetH Tryd.prog [("sallyport/csr.registers", Rows.laid_sallyport_csr_registers), ("sallyport/csr.views", Rows.laid_sallyport_csr_views), ("sallyport/csr.guests", Rows.laid_sallyport_csr_guests)] ((World.doorLaid Tryd.prog 400 os).forCall (fun _ _ => 0) ⟨#[], args, []⟩).memory :=
  laidMetH_of_parts3 (fuel := 8) (laidMet_of_run' 8 (by kernel_rfl) (by kernel_rfl)) (by kernel_rfl) (by kernel_rfl)
end Go.Proofs.YtebdokgfcjlplaaDoor
