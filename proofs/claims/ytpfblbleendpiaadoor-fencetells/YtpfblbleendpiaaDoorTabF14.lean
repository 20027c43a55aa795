/-
  What the listed tables of stage 14 give the walks: their cells, one behind the other.
-/
import Derived.Test.YtpfblbleendpiaaDoorTFenTab
import Derived.LaidMore
import Derived.ProofKit
import Derived.OpenShut
namespace Go.Proofs.YtpfblbleendpiaaDoor
open Go.RowKit
theorem gn0 : Tryd.prog.globalNamed "sallyport/csr.registers" = some 1 := by kernel_rfl
theorem gt0 : (Tryd.prog.globals[1]?).map (·.type) = some 81 := by kernel_rfl
theorem gn2 : Tryd.prog.globalNamed "sallyport/csr.guests" = some 0 := by kernel_rfl
theorem gt2 : (Tryd.prog.globals[0]?).map (·.type) = some 79 := by kernel_rfl
theorem tab_of_laid {W : World} (h : laidMetH Tryd.prog [("sallyport/csr.registers", Rows.laid_sallyport_csr_registers), ("sallyport/csr.guests", Rows.laid_sallyport_csr_guests)] W) : Tab14 W := by
  rw [MakeChecks.laidMetH_plain _ _ _ (by kernel_rfl)] at h
  obtain ⟨ps, ⟨g0, t0, cs0, f0, p0, q0, hg0, ht0, hv0, hd0, ⟨g2, t2, cs2, f2, p2, q2, hg2, ht2, hv2, hd2, _, _⟩, _⟩, _, _⟩ := h
  obtain rfl := Option.some.inj (gn0.symm.trans hg0)
  obtain rfl := Option.some.inj (gt0.symm.trans ht0)
  have e0 := flat_of_trod 4 _ _ _ _ (by kernel_rfl) hd0
  obtain rfl := Option.some.inj (gn2.symm.trans hg2)
  obtain rfl := Option.some.inj (gt2.symm.trans ht2)
  have e2 := flat_of_trod 4 _ _ _ _ (by kernel_rfl) hd2
  refine ⟨⟨?_⟩, ?_⟩
  · intro i v hi
    rw [World.var?_cell hg0 hv0 i]
    rw [show regL = cs0.toList from e0.symm] at hi
    simpa using hi
  · intro i v hi
    rw [World.var?_cell hg2 hv2 i]
    rw [show gueL = cs2.toList from e2.symm] at hi
    simpa using hi
theorem door_met (os : Os) (args : Array Value) : laidMetH Tryd.prog [("sallyport/csr.registers", Rows.laid_sallyport_csr_registers), ("sallyport/csr.guests", Rows.laid_sallyport_csr_guests)] ((World.doorLaid Tryd.prog 400 os).forCall (fun _ _ => 0) ⟨#[], args, []⟩).memory :=
  laidMetH_of_parts3 (fuel := 8) (laidMet_of_run' 8 (by kernel_rfl) (by kernel_rfl)) (by kernel_rfl) (by kernel_rfl)
end Go.Proofs.YtpfblbleendpiaaDoor
