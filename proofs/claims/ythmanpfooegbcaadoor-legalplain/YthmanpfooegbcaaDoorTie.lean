/-
  DERIVED. GIVEN WITH THE SEED: THE PROGRAM's TIES (one call each: nine closed facts by the kernel) AND EACH ROW's TIE, after the 31st guide's Derived/Test/Toyas{Tie, Card}.lean. No idea stands in it: it is a product of the set-up. Laid BY PROGRAM, IN A SANDBOX (cutbox-door.mjs). By AI agents, Wed Nov 11 2026. No macro, syntax, notation, axiom, sorry.
-/
import Derived.Test.YthmanpfooegbcaaDoorRows
import Derived.LaidByTextLater
import Derived.SevenTiedAt
import Derived.LaidSub
import Derived.LaidOnce
namespace Go.Proofs.YthmanpfooegbcaaDoor
open Go
set_option maxRecDepth 100000
theorem seatTie1 : Tryd.prog.laidByTextLater [("sallyport/csr.registers", Rows.laid_sallyport_csr_registers), ("sallyport/csr.views", Rows.laid_sallyport_csr_views), ("sallyport/insn.groups", Rows.laid_sallyport_insn_groups), ("sallyport/legal.causes", Rows.laid_sallyport_legal_causes), ("sallyport/legal.numbers", Rows.laid_sallyport_legal_numbers), ("sallyport/legal.operations", Rows.laid_sallyport_legal_operations)] [.data, .data, .data, .data, .data, .data] true :=
  Program.laidByTextLater_by_one 131 8 134 (by kernel_rfl) (by kernel_rfl) (by kernel_rfl) (by kernel_rfl) (by kernel_rfl) (by kernel_rfl) (fun _ _ => by kernel_rfl)
theorem noOwnUnsafe : Tryd.pinned.checked.prog.headLifts.contains "ownunsafe" = false := by kernel_rfl
theorem tie : Tryd.prog.laidByTextLater [("sallyport/csr.registers", Rows.laid_sallyport_csr_registers), ("sallyport/csr.views", Rows.laid_sallyport_csr_views), ("sallyport/insn.groups", Rows.laid_sallyport_insn_groups), ("sallyport/legal.causes", Rows.laid_sallyport_legal_causes), ("sallyport/legal.numbers", Rows.laid_sallyport_legal_numbers), ("sallyport/legal.operations", Rows.laid_sallyport_legal_operations)] [.data, .data, .data, .data, .data, .data] true :=
  Program.laidByTextLater.sub seatTie1 ["sallyport/csr.registers", "sallyport/csr.views", "sallyport/insn.groups", "sallyport/legal.causes", "sallyport/legal.numbers", "sallyport/legal.operations"] (by kernel_rfl) (by kernel_rfl)
theorem legalTells_row_tie : Rows.legalTellsRow.laidByTextAt .later Tryd.pinned [.data, .data, .data, .data, .data, .data] true :=
  OpenClaim.laidByTextAt_later rfl rfl tie noOwnUnsafe
theorem legalMore_row_tie : Rows.legalMoreRow.laidByTextAt .later Tryd.pinned [.data, .data, .data, .data, .data, .data] true :=
  OpenClaim.laidByTextAt_later rfl rfl tie noOwnUnsafe
theorem legalGuest_row_tie : Rows.legalGuestRow.laidByTextAt .later Tryd.pinned [.data, .data, .data, .data, .data, .data] true :=
  OpenClaim.laidByTextAt_later rfl rfl tie noOwnUnsafe
theorem legalPlain_row_tie : Rows.legalPlainRow.laidByTextAt .later Tryd.pinned [.data, .data, .data, .data, .data, .data] true :=
  OpenClaim.laidByTextAt_later rfl rfl tie noOwnUnsafe
theorem legalReads_row_tie : Rows.legalReadsRow.laidByTextAt .later Tryd.pinned [.data, .data, .data, .data, .data, .data] true :=
  OpenClaim.laidByTextAt_later rfl rfl tie noOwnUnsafe
theorem legalTellsUpto_row_tie : Rows.legalTellsUptoRow.laidByTextAt .later Tryd.pinned [.data, .data, .data, .data, .data, .data] true :=
  OpenClaim.laidByTextAt_later rfl rfl tie noOwnUnsafe
theorem legalMoreUpto_row_tie : Rows.legalMoreUptoRow.laidByTextAt .later Tryd.pinned [.data, .data, .data, .data, .data, .data] true :=
  OpenClaim.laidByTextAt_later rfl rfl tie noOwnUnsafe
theorem legalGuestUpto_row_tie : Rows.legalGuestUptoRow.laidByTextAt .later Tryd.pinned [.data, .data, .data, .data, .data, .data] true :=
  OpenClaim.laidByTextAt_later rfl rfl tie noOwnUnsafe
theorem legalPlainUpto_row_tie : Rows.legalPlainUptoRow.laidByTextAt .later Tryd.pinned [.data, .data, .data, .data, .data, .data] true :=
  OpenClaim.laidByTextAt_later rfl rfl tie noOwnUnsafe
theorem legalReadsUpto_row_tie : Rows.legalReadsUptoRow.laidByTextAt .later Tryd.pinned [.data, .data, .data, .data, .data, .data] true :=
  OpenClaim.laidByTextAt_later rfl rfl tie noOwnUnsafe
end Go.Proofs.YthmanpfooegbcaaDoor
