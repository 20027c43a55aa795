/-
  What the listed tables of stage 10 give the walks: their cells, one behind the other.
-/
import Derived.Test.YtlgmnnfgekmibaaDoorTPte
import Derived.LaidMore
import Derived.ProofKit
import Derived.OpenShut
namespace Go.Proofs.YtlgmnnfgekmibaaDoor
open Go.RowKit
theorem gn2 : Tryd.prog.globalNamed "internal/strconv.uint64pow10" = some 2 := by kernel_rfl
theorem gt2 : (Tryd.prog.globals[2]?).map (·.type) = some 58 := by kernel_rfl
theorem gn3 : Tryd.prog.globalNamed "sallyport/pte.letters" = some 0 := by kernel_rfl
theorem gt3 : (Tryd.prog.globals[0]?).map (·.type) = some 40 := by kernel_rfl
theorem gn4 : Tryd.prog.globalNamed "sallyport/pte.rights" = some 1 := by kernel_rfl
theorem gt4 : (Tryd.prog.globals[1]?).map (·.type) = some 48 := by kernel_rfl
theorem pow_flat : flatD 4 (Rows.laid_internal_strconv_uint64pow10 (H := Unit)) = Lib.pow10Tab.map fun z => Value.int .u64 z := by kernel_rfl
theorem tab_of_laid {W : World} (h : laidMetH Tryd.prog [("math/bits.deBruijn32tab", Rows.laid_math_bits_deBruijn32tab), ("math/bits.deBruijn64tab", Rows.laid_math_bits_deBruijn64tab), ("internal/strconv.uint64pow10", Rows.laid_internal_strconv_uint64pow10), ("sallyport/pte.letters", Rows.laid_sallyport_pte_letters), ("sallyport/pte.rights", Rows.laid_sallyport_pte_rights)] W) : Tab10 W := by
  rw [MakeChecks.laidMetH_plain _ _ _ (by kernel_rfl)] at h
  obtain ⟨ps, ⟨_, _, _, _, _, _, _, _, _, _, ⟨_, _, _, _, _, _, _, _, _, _, ⟨g2, t2, cs2, f2, p2, q2, hg2, ht2, hv2, hd2, ⟨g3, t3, cs3, f3, p3, q3, hg3, ht3, hv3, hd3, ⟨g4, t4, cs4, f4, p4, q4, hg4, ht4, hv4, hd4, _, _⟩, _⟩, _⟩, _⟩, _⟩, _, _⟩ := h
  obtain rfl := Option.some.inj (gn2.symm.trans hg2)
  obtain rfl := Option.some.inj (gt2.symm.trans ht2)
  have e2 := flat_of_trod 4 _ _ _ _ (by kernel_rfl) hd2
  obtain rfl := Option.some.inj (gn3.symm.trans hg3)
  obtain rfl := Option.some.inj (gt3.symm.trans ht3)
  have e3 := flat_of_trod 4 _ _ _ _ (by kernel_rfl) hd3
  obtain rfl := Option.some.inj (gn4.symm.trans hg4)
  obtain rfl := Option.some.inj (gt4.symm.trans ht4)
  have e4 := flat_of_trod 4 _ _ _ _ (by kernel_rfl) hd4
  refine ⟨?_, ?_, ?_⟩
  · intro i v hi
    rw [World.var?_cell hg4 hv4 i]
    rw [show riL = cs4.toList from e4.symm] at hi
    simpa using hi
  · intro i v hi
    rw [World.var?_cell hg3 hv3 i]
    rw [show leL = cs3.toList from e3.symm] at hi
    simpa using hi
  · unfold Lib.TabIs
    rw [hv2, ← pow_flat, ← e2]
theorem door_met (os : Os) (args : Array Value) : laidMetH Tryd.prog [("math/bits.deBruijn32tab", Rows.laid_math_bits_deBruijn32tab), ("math/bits.deBruijn64tab", Rows.laid_math_bits_deBruijn64tab), ("internal/strconv.uint64pow10", Rows.laid_internal_strconv_uint64pow10), ("sallyport/pte.letters", Rows.laid_sallyport_pte_letters), ("sallyport/pte.rights", Rows.laid_sallyport_pte_rights)] ((World.doorLaid Tryd.prog 400 os).forCall (fun _ _ => 0) ⟨#[], args, []⟩).memory :=
  laidMetH_of_parts3 (fuel := 8) (laidMet_of_run' 8 (by kernel_rfl) (by kernel_rfl)) (by kernel_rfl) (by kernel_rfl)
end Go.Proofs.YtlgmnnfgekmibaaDoor
