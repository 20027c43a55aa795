/-
  DERIVED. GIVEN WITH THE SEED: THE PROGRAM's TIES (one call each: nine closed facts by the kernel) AND EACH ROW's TIE, after the 31st guide's Derived/Test/Toyas{Tie, Card}.lean. No idea stands in it: it is a product of the set-up. Laid BY PROGRAM, IN A SANDBOX (cutbox-door.mjs). By AI agents, Wed Nov 11 2026. No macro, syntax, notation, axiom, sorry.
-/
import Derived.Test.YtbeehnfmhclbmabDoorRows
import Derived.LaidByTextLater
import Derived.SevenTiedAt
import Derived.LaidSub
import Derived.LaidOnce
namespace Go.Proofs.YtbeehnfmhclbmabDoor
open Go
set_option maxRecDepth 100000
theorem seatTie1 : Tryd.prog.laidByTextLater [("sallyport/insn.groups", Rows.laid_sallyport_insn_groups), ("sallyport/alu.deeds", Rows.laid_sallyport_alu_deeds)] [.data, .data] true :=
  Program.laidByTextLater_by_one 57 8 134 (by kernel_rfl) (by kernel_rfl) (by kernel_rfl) (by kernel_rfl) (by kernel_rfl) (by kernel_rfl) (fun _ _ => by kernel_rfl)
theorem noOwnUnsafe : Tryd.pinned.checked.prog.headLifts.contains "ownunsafe" = false := by kernel_rfl
theorem tie : Tryd.prog.laidByTextLater [("sallyport/insn.groups", Rows.laid_sallyport_insn_groups), ("sallyport/alu.deeds", Rows.laid_sallyport_alu_deeds)] [.data, .data] true :=
  Program.laidByTextLater.sub seatTie1 ["sallyport/insn.groups", "sallyport/alu.deeds"] (by kernel_rfl) (by kernel_rfl)
theorem aluBits_row_tie : Rows.aluBitsRow.laidByTextAt .later Tryd.pinned [.data, .data] true :=
  OpenClaim.laidByTextAt_later rfl rfl tie noOwnUnsafe
theorem aluBitsUpto_row_tie : Rows.aluBitsUptoRow.laidByTextAt .later Tryd.pinned [.data, .data] true :=
  OpenClaim.laidByTextAt_later rfl rfl tie noOwnUnsafe
end Go.Proofs.YtbeehnfmhclbmabDoor
