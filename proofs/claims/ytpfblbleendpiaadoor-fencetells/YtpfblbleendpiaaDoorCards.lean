/-
  DERIVED. GIVEN WITH THE SEED: THE CARDS: each row of YtpfblbleendpiaaDoorRows.lean that lists a variable, with what it lists TIED to the program's text (the seventh form; the later family's looks); each row that meets fmt, with fmt's text TOLD by the authors' own Lean function (tested against real Go, not proved from fmt's source: count such statements apart). THE CARD IS WHAT COUNTS. Prove the row's statement (the work); the ties are given (YtpfblbleendpiaaDoorTie.lean); close each card by the builder's one call (the guide's Derived/Test/ToyasCard.lean, 'card_holds'). Laid BY PROGRAM, IN A SANDBOX (cutbox-door.mjs). By AI agents, Wed Nov 11 2026. No macro, syntax, notation, axiom, sorry.
-/
import Derived.Test.YtpfblbleendpiaaDoorRows
import GoSem.ClaimSeven
namespace Go.Proofs.YtpfblbleendpiaaDoor
namespace Rows

/-- THE TIED CARD OF 'sallyportlaw14.FenceTells'. -/
def fenceTellsCard : Claim7 := { stood := { row := fenceTellsRow, standIns := [], harness := (true, "f1ff36f4b98508f929885804e6da541ae358a451a6b5c5e0aa3678666dbed0a5"), looks := false }, kinds := [], alts := [], laidByText := true, laidKinds := [.data, .data], laidTests := true, laidLooks := .later }
def FenceTellsCardSaid : Prop := Claim7.holds Tryd.pinned (.plain (OpenSpec.ofChange fenceTellsSpec)) fenceTellsCard

/-- THE SECOND FORM's CARD OF 'sallyportlaw14.FenceTells'. -/
def fenceTellsUptoCard : Claim7 := { stood := { row := fenceTellsUptoRow, standIns := [], harness := (true, "f1ff36f4b98508f929885804e6da541ae358a451a6b5c5e0aa3678666dbed0a5"), looks := false }, kinds := [], alts := [], laidByText := true, laidKinds := [.data, .data], laidTests := true, laidLooks := .later }
def FenceTellsUptoCardSaid : Prop := Claim7.holds Tryd.pinned (.plain (OpenSpec.upto fenceTellsSpec)) fenceTellsUptoCard
end Rows
end Go.Proofs.YtpfblbleendpiaaDoor
