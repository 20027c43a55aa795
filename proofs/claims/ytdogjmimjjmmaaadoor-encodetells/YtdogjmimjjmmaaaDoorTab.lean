/-
  What the listed tables give the walks: their cells, one behind the other.
-/
import Derived.Test.YtdogjmimjjmmaaaDoorEncMore
import Derived.LaidMore
import Derived.ProofKit
import Derived.OpenShut
namespace Go.Proofs.YtdogjmimjjmmaaaDoor
open Go.RowKit
theorem gn2 : Tryd.prog.globalNamed "internal/strconv.uint64pow10" = some 6 := by kernel_rfl
theorem gt2 : (Tryd.prog.globals[6]?).map (·.type) = some 127 := by kernel_rfl
theorem gn3 : Tryd.prog.globalNamed "sallyport/insn.groups" = some 5 := by kernel_rfl
theorem gt3 : (Tryd.prog.globals[5]?).map (·.type) = some 108 := by kernel_rfl
theorem gn4 : Tryd.prog.globalNamed "sallyport/encode.kinds" = some 2 := by kernel_rfl
theorem gt4 : (Tryd.prog.globals[2]?).map (·.type) = some 85 := by kernel_rfl
theorem gn5 : Tryd.prog.globalNamed "sallyport/encode.f3s" = some 0 := by kernel_rfl
theorem gt5 : (Tryd.prog.globals[0]?).map (·.type) = some 70 := by kernel_rfl
theorem gn6 : Tryd.prog.globalNamed "sallyport/encode.tops" = some 1 := by kernel_rfl
theorem gt6 : (Tryd.prog.globals[1]?).map (·.type) = some 72 := by kernel_rfl
theorem pow_flat : flatD 4 (Rows.laid_internal_strconv_uint64pow10 (H := Unit)) = Lib.pow10Tab.map fun z => Value.int .u64 z := by kernel_rfl
theorem tab_of_laid {W : World} (h : laidMetH Tryd.prog [("math/bits.deBruijn32tab", Rows.laid_math_bits_deBruijn32tab), ("math/bits.deBruijn64tab", Rows.laid_math_bits_deBruijn64tab), ("internal/strconv.uint64pow10", Rows.laid_internal_strconv_uint64pow10), ("sallyport/insn.groups", Rows.laid_sallyport_insn_groups), ("sallyport/encode.kinds", Rows.laid_sallyport_encode_kinds), ("sallyport/encode.f3s", Rows.laid_sallyport_encode_f3s), ("sallyport/encode.tops", Rows.laid_sallyport_encode_tops)] W) : Tab4 W := by
  rw [MakeChecks.laidMetH_plain _ _ _ (by kernel_rfl)] at h
  obtain ⟨ps, ⟨g0, t0, cs0, f0, p0, q0, hg0, ht0, hv0, hd0, ⟨g1, t1, cs1, f1, p1, q1, hg1, ht1, hv1, hd1, ⟨g2, t2, cs2, f2, p2, q2, hg2, ht2, hv2, hd2, ⟨g3, t3, cs3, f3, p3, q3, hg3, ht3, hv3, hd3, ⟨g4, t4, cs4, f4, p4, q4, hg4, ht4, hv4, hd4, ⟨g5, t5, cs5, f5, p5, q5, hg5, ht5, hv5, hd5, ⟨g6, t6, cs6, f6, p6, q6, hg6, ht6, hv6, hd6, _, _⟩, _⟩, _⟩, _⟩, _⟩, _⟩, _⟩, _, _⟩ := h
  obtain rfl := Option.some.inj (gn2.symm.trans hg2)
  obtain rfl := Option.some.inj (gt2.symm.trans ht2)
  have e2 := flat_of_trod 4 _ _ _ _ (by kernel_rfl) hd2
  obtain rfl := Option.some.inj (gn3.symm.trans hg3)
  obtain rfl := Option.some.inj (gt3.symm.trans ht3)
  have e3 := flat_of_trod 4 _ _ _ _ (by kernel_rfl) hd3
  obtain rfl := Option.some.inj (gn4.symm.trans hg4)
  obtain rfl := Option.some.inj (gt4.symm.trans ht4)
  have e4 := flat_of_trod 4 _ _ _ _ (by kernel_rfl) hd4
  obtain rfl := Option.some.inj (gn5.symm.trans hg5)
  obtain rfl := Option.some.inj (gt5.symm.trans ht5)
  have e5 := flat_of_trod 4 _ _ _ _ (by kernel_rfl) hd5
  obtain rfl := Option.some.inj (gn6.symm.trans hg6)
  obtain rfl := Option.some.inj (gt6.symm.trans ht6)
  have e6 := flat_of_trod 4 _ _ _ _ (by kernel_rfl) hd6
  have xi : TabI W := by
    intro i v hi
    rw [World.var?_cell hg3 hv3 i]
    rw [show gL = cs3.toList from e3.symm] at hi
    simpa using hi
  have xk : TabK W := by
    intro i v hi
    rw [World.var?_cell hg4 hv4 i]
    rw [show kL = cs4.toList from e4.symm] at hi
    simpa using hi
  have xf : TabF W := by
    intro i v hi
    rw [World.var?_cell hg5 hv5 i]
    rw [show fL = cs5.toList from e5.symm] at hi
    simpa using hi
  have xt : TabT W := by
    intro i v hi
    rw [World.var?_cell hg6 hv6 i]
    rw [show tL = cs6.toList from e6.symm] at hi
    simpa using hi
  have xp : Lib.TabIs Tryd.prog W "internal/strconv.uint64pow10" .u64 Lib.pow10Tab := by
    unfold Lib.TabIs
    rw [hv2, ← pow_flat, ← e2]
  exact ⟨xi, xk, xf, xt, xp⟩
theorem door_met (os : Os) (args : Array Value) : laidMetH Tryd.prog [("math/bits.deBruijn32tab", Rows.laid_math_bits_deBruijn32tab), ("math/bits.deBruijn64tab", Rows.laid_math_bits_deBruijn64tab), ("internal/strconv.uint64pow10", Rows.laid_internal_strconv_uint64pow10), ("sallyport/insn.groups", Rows.laid_sallyport_insn_groups), ("sallyport/encode.kinds", Rows.laid_sallyport_encode_kinds), ("sallyport/encode.f3s", Rows.laid_sallyport_encode_f3s), ("sallyport/encode.tops", Rows.laid_sallyport_encode_tops)] ((World.doorLaid Tryd.prog 400 os).forCall (fun _ _ => 0) ⟨#[], args, []⟩).memory :=
  laidMetH_of_parts3 (fuel := 8) (laidMet_of_run' 8 (by kernel_rfl) (by kernel_rfl)) (by kernel_rfl) (by kernel_rfl)
end Go.Proofs.YtdogjmimjjmmaaaDoor
