/-
  What the listed tables of stage 9 give the walks: their cells, one behind the other.
-/
import Derived.Test.YthmanpfooegbcaaDoorTTab9
import Derived.LaidMore
import Derived.ProofKit
import Derived.OpenShut
namespace Go.Proofs.YthmanpfooegbcaaDoor
open Go.RowKit
theorem gn0 : Tryd.prog.globalNamed "sallyport/csr.registers" = some 3 := by kernel_rfl
theorem gt0 : (Tryd.prog.globals[3]?).map (·.type) = some 78 := by kernel_rfl
theorem gn1 : Tryd.prog.globalNamed "sallyport/csr.views" = some 4 := by kernel_rfl
theorem gt1 : (Tryd.prog.globals[4]?).map (·.type) = some 80 := by kernel_rfl
theorem gn2 : Tryd.prog.globalNamed "sallyport/insn.groups" = some 5 := by kernel_rfl
theorem gt2 : (Tryd.prog.globals[5]?).map (·.type) = some 83 := by kernel_rfl
theorem gn3 : Tryd.prog.globalNamed "sallyport/legal.causes" = some 1 := by kernel_rfl
theorem gt3 : (Tryd.prog.globals[1]?).map (·.type) = some 68 := by kernel_rfl
theorem gn4 : Tryd.prog.globalNamed "sallyport/legal.numbers" = some 0 := by kernel_rfl
theorem gt4 : (Tryd.prog.globals[0]?).map (·.type) = some 66 := by kernel_rfl
theorem gn5 : Tryd.prog.globalNamed "sallyport/legal.operations" = some 2 := by kernel_rfl
theorem gt5 : (Tryd.prog.globals[2]?).map (·.type) = some 75 := by kernel_rfl
theorem tab_of_laid {W : World} (h : laidMetH Tryd.prog [("sallyport/csr.registers", Rows.laid_sallyport_csr_registers), ("sallyport/csr.views", Rows.laid_sallyport_csr_views), ("sallyport/insn.groups", Rows.laid_sallyport_insn_groups), ("sallyport/legal.causes", Rows.laid_sallyport_legal_causes), ("sallyport/legal.numbers", Rows.laid_sallyport_legal_numbers), ("sallyport/legal.operations", Rows.laid_sallyport_legal_operations)] W) : Tab9 W := by
  rw [MakeChecks.laidMetH_plain _ _ _ (by kernel_rfl)] at h
  obtain ⟨ps, ⟨g0, t0, cs0, f0, p0, q0, hg0, ht0, hv0, hd0, ⟨g1, t1, cs1, f1, p1, q1, hg1, ht1, hv1, hd1, ⟨g2, t2, cs2, f2, p2, q2, hg2, ht2, hv2, hd2, ⟨g3, t3, cs3, f3, p3, q3, hg3, ht3, hv3, hd3, ⟨g4, t4, cs4, f4, p4, q4, hg4, ht4, hv4, hd4, ⟨g5, t5, cs5, f5, p5, q5, hg5, ht5, hv5, hd5, _, _⟩, _⟩, _⟩, _⟩, _⟩, _⟩, _, _⟩ := h
  obtain rfl := Option.some.inj (gn0.symm.trans hg0)
  obtain rfl := Option.some.inj (gt0.symm.trans ht0)
  have e0 := flat_of_trod 4 _ _ _ _ (by kernel_rfl) hd0
  obtain rfl := Option.some.inj (gn1.symm.trans hg1)
  obtain rfl := Option.some.inj (gt1.symm.trans ht1)
  have e1 := flat_of_trod 4 _ _ _ _ (by kernel_rfl) hd1
  obtain rfl := Option.some.inj (gn2.symm.trans hg2)
  obtain rfl := Option.some.inj (gt2.symm.trans ht2)
  have e2 := flat_of_trod 4 _ _ _ _ (by kernel_rfl) hd2
  obtain rfl := Option.some.inj (gn3.symm.trans hg3)
  obtain rfl := Option.some.inj (gt3.symm.trans ht3)
  have e3 := flat_of_trod 4 _ _ _ _ (by kernel_rfl) hd3
  obtain rfl := Option.some.inj (gn4.symm.trans hg4)
  obtain rfl := Option.some.inj (gt4.symm.trans ht4)
  have e4 := flat_of_trod 4 _ _ _ _ (by kernel_rfl) hd4
  obtain rfl := Option.some.inj (gn5.symm.trans hg5)
  obtain rfl := Option.some.inj (gt5.symm.trans ht5)
  have e5 := flat_of_trod 4 _ _ _ _ (by kernel_rfl) hd5
  refine ⟨⟨?_, ?_⟩, ?_, ?_, ?_, ?_⟩
  · intro i v hi
    rw [World.var?_cell hg0 hv0 i]
    rw [show regL = cs0.toList from e0.symm] at hi
    simpa using hi
  · intro i v hi
    rw [World.var?_cell hg1 hv1 i]
    rw [show vieL = cs1.toList from e1.symm] at hi
    simpa using hi
  · intro i v hi
    rw [World.var?_cell hg2 hv2 i]
    rw [show gL = cs2.toList from e2.symm] at hi
    simpa using hi
  · intro i v hi
    rw [World.var?_cell hg4 hv4 i]
    rw [show nmL = cs4.toList from e4.symm] at hi
    simpa using hi
  · intro i v hi
    rw [World.var?_cell hg5 hv5 i]
    rw [show opL = cs5.toList from e5.symm] at hi
    simpa using hi
  · intro i v hi
    rw [World.var?_cell hg3 hv3 i]
    rw [show caL = cs3.toList from e3.symm] at hi
    simpa using hi
theorem door_met (os : Os) (args : Array Value) : laidMetH Tryd.prog [("sallyport/csr.registers", Rows.laid_sallyport_csr_registers), ("sallyport/csr.views", Rows.laid_sallyport_csr_views), ("sallyport/insn.groups", Rows.laid_sallyport_insn_groups), ("sallyport/legal.causes", Rows.laid_sallyport_legal_causes), ("sallyport/legal.numbers", Rows.laid_sallyport_legal_numbers), ("sallyport/legal.operations", Rows.laid_sallyport_legal_operations)] ((World.doorLaid Tryd.prog 400 os).forCall (fun _ _ => 0) ⟨#[], args, []⟩).memory :=
  laidMetH_of_parts3 (fuel := 8) (laidMet_of_run' 8 (by kernel_rfl) (by kernel_rfl)) (by kernel_rfl) (by kernel_rfl)
end Go.Proofs.YthmanpfooegbcaaDoor
