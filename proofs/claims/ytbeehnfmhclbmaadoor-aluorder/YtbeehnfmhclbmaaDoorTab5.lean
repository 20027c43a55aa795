/-
  What the listed tables of stage 5 give the walks: their cells, one behind the other.
-/
import Derived.Test.YtbeehnfmhclbmaaDoorAluDo
import Derived.LaidMore
import Derived.ProofKit
import Derived.OpenShut
namespace Go.Proofs.YtbeehnfmhclbmaaDoor
open Go.RowKit
theorem U_of_wf {a : Int} (h : (Lit.int .u64 a).wf = true) : U a := by
  have := u64_of_wf h
  unfold U
  omega
theorem gn0 : Tryd.prog.globalNamed "sallyport/insn.groups" = some 1 := by kernel_rfl
theorem gt0 : (Tryd.prog.globals[1]?).map (·.type) = some 45 := by kernel_rfl
theorem gn1 : Tryd.prog.globalNamed "sallyport/alu.deeds" = some 0 := by kernel_rfl
theorem gt1 : (Tryd.prog.globals[0]?).map (·.type) = some 32 := by kernel_rfl
theorem tab_of_laid {W : World} (h : laidMetH Tryd.prog [("sallyport/insn.groups", Rows.laid_sallyport_insn_groups), ("sallyport/alu.deeds", Rows.laid_sallyport_alu_deeds)] W) : Tab5 W := by
  rw [MakeChecks.laidMetH_plain _ _ _ (by kernel_rfl)] at h
  obtain ⟨ps, ⟨g0, t0, cs0, f0, p0, q0, hg0, ht0, hv0, hd0, ⟨g1, t1, cs1, f1, p1, q1, hg1, ht1, hv1, hd1, _, _⟩, _⟩, _, _⟩ := h
  obtain rfl := Option.some.inj (gn0.symm.trans hg0)
  obtain rfl := Option.some.inj (gt0.symm.trans ht0)
  have e0 := flat_of_trod 4 _ _ _ _ (by kernel_rfl) hd0
  obtain rfl := Option.some.inj (gn1.symm.trans hg1)
  obtain rfl := Option.some.inj (gt1.symm.trans ht1)
  have e1 := flat_of_trod 4 _ _ _ _ (by kernel_rfl) hd1
  refine ⟨?_, ?_⟩
  · intro i v hi
    rw [World.var?_cell hg0 hv0 i]
    rw [show gL = cs0.toList from e0.symm] at hi
    simpa using hi
  · intro i v hi
    rw [World.var?_cell hg1 hv1 i]
    rw [show ddL = cs1.toList from e1.symm] at hi
    simpa using hi
theorem door_met (os : Os) (args : Array Value) : laidMetH Tryd.prog [("sallyport/insn.groups", Rows.laid_sallyport_insn_groups), ("sallyport/alu.deeds", Rows.laid_sallyport_alu_deeds)] ((World.doorLaid Tryd.prog 400 os).forCall (fun _ _ => 0) ⟨#[], args, []⟩).memory :=
  laidMetH_of_parts3 (fuel := 8) (laidMet_of_run' 8 (by kernel_rfl) (by kernel_rfl)) (by kernel_rfl) (by kernel_rfl)
end Go.Proofs.YtbeehnfmhclbmaaDoor
