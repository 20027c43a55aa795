/-
  DERIVED. GIVEN WITH THE SEED: THE CARDS: each row of YtbeehnfmhclbmaaDoorRows.lean that lists a variable, with what it lists TIED to the program's text (the seventh form; the later family's looks); each row that meets fmt, with fmt's text TOLD by the authors' own Lean function (tested against real Go, not proved from fmt's source: count such statements apart). THE CARD IS WHAT COUNTS. Prove the row's statement (the work); the ties are given (YtbeehnfmhclbmaaDoorTie.lean); close each card by the builder's one call (the guide's Derived/Test/ToyasCard.lean, 'card_holds'). Laid BY PROGRAM, IN A SANDBOX (cutbox-door.mjs). By AI agents, Wed Nov 11 2026. No macro, syntax, notation, axiom, sorry.
-/
import Derived.Test.YtbeehnfmhclbmaaDoorRows
import GoSem.ClaimSeven
namespace Go.Proofs.YtbeehnfmhclbmaaDoor
namespace Rows

/-- THE TIED CARD OF 'sallyportlaw5.AluTells'. -/
def aluTellsCard : Claim7 := { stood := { row := aluTellsRow, standIns := [], harness := (true, "6da53c553e2078a3abe7c7a095872037921a2d2059ab0493e3fa72b1d7585ae3"), looks := false }, kinds := [], alts := [], laidByText := true, laidKinds := [.data, .data], laidTests := true, laidLooks := .later }
def AluTellsCardSaid : Prop := Claim7.holds Tryd.pinned (.plain (OpenSpec.ofChange aluTellsSpec)) aluTellsCard

/-- THE TIED CARD OF 'sallyportlaw5.AluBack'. -/
def aluBackCard : Claim7 := { stood := { row := aluBackRow, standIns := [], harness := (true, "6da53c553e2078a3abe7c7a095872037921a2d2059ab0493e3fa72b1d7585ae3"), looks := false }, kinds := [], alts := [], laidByText := true, laidKinds := [.data, .data], laidTests := true, laidLooks := .later }
def AluBackCardSaid : Prop := Claim7.holds Tryd.pinned (.plain (OpenSpec.ofChange aluBackSpec)) aluBackCard

/-- THE TIED CARD OF 'sallyportlaw5.AluOrder'. -/
def aluOrderCard : Claim7 := { stood := { row := aluOrderRow, standIns := [], harness := (true, "6da53c553e2078a3abe7c7a095872037921a2d2059ab0493e3fa72b1d7585ae3"), looks := false }, kinds := [], alts := [], laidByText := true, laidKinds := [.data, .data], laidTests := true, laidLooks := .later }
def AluOrderCardSaid : Prop := Claim7.holds Tryd.pinned (.plain (OpenSpec.ofChange aluOrderSpec)) aluOrderCard

/-- THE TIED CARD OF 'sallyportlaw5.AluHalves'. -/
def aluHalvesCard : Claim7 := { stood := { row := aluHalvesRow, standIns := [], harness := (true, "6da53c553e2078a3abe7c7a095872037921a2d2059ab0493e3fa72b1d7585ae3"), looks := false }, kinds := [], alts := [], laidByText := true, laidKinds := [.data, .data], laidTests := true, laidLooks := .later }
def AluHalvesCardSaid : Prop := Claim7.holds Tryd.pinned (.plain (OpenSpec.ofChange aluHalvesSpec)) aluHalvesCard

/-- THE TIED CARD OF 'sallyportlaw5.AluCsr'. -/
def aluCsrCard : Claim7 := { stood := { row := aluCsrRow, standIns := [], harness := (true, "6da53c553e2078a3abe7c7a095872037921a2d2059ab0493e3fa72b1d7585ae3"), looks := false }, kinds := [], alts := [], laidByText := true, laidKinds := [.data, .data], laidTests := true, laidLooks := .later }
def AluCsrCardSaid : Prop := Claim7.holds Tryd.pinned (.plain (OpenSpec.ofChange aluCsrSpec)) aluCsrCard

/-- THE TIED CARD OF 'sallyportlaw5.AluSteps'. -/
def aluStepsCard : Claim7 := { stood := { row := aluStepsRow, standIns := [], harness := (true, "6da53c553e2078a3abe7c7a095872037921a2d2059ab0493e3fa72b1d7585ae3"), looks := false }, kinds := [], alts := [], laidByText := true, laidKinds := [.data, .data], laidTests := true, laidLooks := .later }
def AluStepsCardSaid : Prop := Claim7.holds Tryd.pinned (.plain (OpenSpec.ofChange aluStepsSpec)) aluStepsCard

/-- THE SECOND FORM's CARD OF 'sallyportlaw5.AluTells'. -/
def aluTellsUptoCard : Claim7 := { stood := { row := aluTellsUptoRow, standIns := [], harness := (true, "6da53c553e2078a3abe7c7a095872037921a2d2059ab0493e3fa72b1d7585ae3"), looks := false }, kinds := [], alts := [], laidByText := true, laidKinds := [.data, .data], laidTests := true, laidLooks := .later }
def AluTellsUptoCardSaid : Prop := Claim7.holds Tryd.pinned (.plain (OpenSpec.upto aluTellsSpec)) aluTellsUptoCard

/-- THE SECOND FORM's CARD OF 'sallyportlaw5.AluBack'. -/
def aluBackUptoCard : Claim7 := { stood := { row := aluBackUptoRow, standIns := [], harness := (true, "6da53c553e2078a3abe7c7a095872037921a2d2059ab0493e3fa72b1d7585ae3"), looks := false }, kinds := [], alts := [], laidByText := true, laidKinds := [.data, .data], laidTests := true, laidLooks := .later }
def AluBackUptoCardSaid : Prop := Claim7.holds Tryd.pinned (.plain (OpenSpec.upto aluBackSpec)) aluBackUptoCard

/-- THE SECOND FORM's CARD OF 'sallyportlaw5.AluOrder'. -/
def aluOrderUptoCard : Claim7 := { stood := { row := aluOrderUptoRow, standIns := [], harness := (true, "6da53c553e2078a3abe7c7a095872037921a2d2059ab0493e3fa72b1d7585ae3"), looks := false }, kinds := [], alts := [], laidByText := true, laidKinds := [.data, .data], laidTests := true, laidLooks := .later }
def AluOrderUptoCardSaid : Prop := Claim7.holds Tryd.pinned (.plain (OpenSpec.upto aluOrderSpec)) aluOrderUptoCard

/-- THE SECOND FORM's CARD OF 'sallyportlaw5.AluHalves'. -/
def aluHalvesUptoCard : Claim7 := { stood := { row := aluHalvesUptoRow, standIns := [], harness := (true, "6da53c553e2078a3abe7c7a095872037921a2d2059ab0493e3fa72b1d7585ae3"), looks := false }, kinds := [], alts := [], laidByText := true, laidKinds := [.data, .data], laidTests := true, laidLooks := .later }
def AluHalvesUptoCardSaid : Prop := Claim7.holds Tryd.pinned (.plain (OpenSpec.upto aluHalvesSpec)) aluHalvesUptoCard

/-- THE SECOND FORM's CARD OF 'sallyportlaw5.AluCsr'. -/
def aluCsrUptoCard : Claim7 := { stood := { row := aluCsrUptoRow, standIns := [], harness := (true, "6da53c553e2078a3abe7c7a095872037921a2d2059ab0493e3fa72b1d7585ae3"), looks := false }, kinds := [], alts := [], laidByText := true, laidKinds := [.data, .data], laidTests := true, laidLooks := .later }
def AluCsrUptoCardSaid : Prop := Claim7.holds Tryd.pinned (.plain (OpenSpec.upto aluCsrSpec)) aluCsrUptoCard

/-- THE SECOND FORM's CARD OF 'sallyportlaw5.AluSteps'. -/
def aluStepsUptoCard : Claim7 := { stood := { row := aluStepsUptoRow, standIns := [], harness := (true, "6da53c553e2078a3abe7c7a095872037921a2d2059ab0493e3fa72b1d7585ae3"), looks := false }, kinds := [], alts := [], laidByText := true, laidKinds := [.data, .data], laidTests := true, laidLooks := .later }
def AluStepsUptoCardSaid : Prop := Claim7.holds Tryd.pinned (.plain (OpenSpec.upto aluStepsSpec)) aluStepsUptoCard
end Rows
end Go.Proofs.YtbeehnfmhclbmaaDoor
