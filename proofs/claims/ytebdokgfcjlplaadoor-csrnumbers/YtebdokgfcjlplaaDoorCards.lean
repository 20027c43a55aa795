/-
  DERIVED. GIVEN WITH THE SEED: THE CARDS: each row of YtebdokgfcjlplaaDoorRows.lean that lists a variable, with what it lists TIED to the program's text (the seventh form; the later family's looks); each row that meets fmt, with fmt's text TOLD by the authors' own Lean function (tested against real Go, not proved from fmt's source: count such statements apart). THE CARD IS WHAT COUNTS. Prove the row's statement (the work); the ties are given (YtebdokgfcjlplaaDoorTie.lean); close each card by the builder's one call (the guide's Derived/Test/ToyasCard.lean, 'card_holds'). Laid BY PROGRAM, IN A SANDBOX (cutbox-door.mjs). By AI agents, Wed Nov 11 2026. No macro, syntax, notation, axiom, sorry.
-/
import Derived.Test.YtebdokgfcjlplaaDoorRows
import GoSem.ClaimSeven
namespace Go.Proofs.YtebdokgfcjlplaaDoor
namespace Rows

/-- THE TIED CARD OF 'sallyportlaw8.CsrTells'. -/
def csrTellsCard : Claim7 := { stood := { row := csrTellsRow, standIns := [], harness := (true, "3ebc8c68bc18560f03b287be1235d50d790e5903d19e138e634401bf858d33ca"), looks := false }, kinds := [], alts := [], laidByText := true, laidKinds := [.data, .data, .data], laidTests := true, laidLooks := .later }
def CsrTellsCardSaid : Prop := Claim7.holds Tryd.pinned (.plain (OpenSpec.ofChange csrTellsSpec)) csrTellsCard

/-- THE TIED CARD OF 'sallyportlaw8.CsrBack'. -/
def csrBackCard : Claim7 := { stood := { row := csrBackRow, standIns := [], harness := (true, "3ebc8c68bc18560f03b287be1235d50d790e5903d19e138e634401bf858d33ca"), looks := false }, kinds := [], alts := [], laidByText := true, laidKinds := [.data, .data, .data], laidTests := true, laidLooks := .later }
def CsrBackCardSaid : Prop := Claim7.holds Tryd.pinned (.plain (OpenSpec.ofChange csrBackSpec)) csrBackCard

/-- THE TIED CARD OF 'sallyportlaw8.CsrViews'. -/
def csrViewsCard : Claim7 := { stood := { row := csrViewsRow, standIns := [], harness := (true, "3ebc8c68bc18560f03b287be1235d50d790e5903d19e138e634401bf858d33ca"), looks := false }, kinds := [], alts := [], laidByText := true, laidKinds := [.data, .data, .data], laidTests := true, laidLooks := .later }
def CsrViewsCardSaid : Prop := Claim7.holds Tryd.pinned (.plain (OpenSpec.ofChange csrViewsSpec)) csrViewsCard

/-- THE TIED CARD OF 'sallyportlaw8.CsrNumbers'. -/
def csrNumbersCard : Claim7 := { stood := { row := csrNumbersRow, standIns := [], harness := (true, "3ebc8c68bc18560f03b287be1235d50d790e5903d19e138e634401bf858d33ca"), looks := false }, kinds := [], alts := [], laidByText := true, laidKinds := [.data, .data, .data], laidTests := true, laidLooks := .later }
def CsrNumbersCardSaid : Prop := Claim7.holds Tryd.pinned (.plain (OpenSpec.ofChange csrNumbersSpec)) csrNumbersCard

/-- THE TIED CARD OF 'sallyportlaw8.CsrGuests'. -/
def csrGuestsCard : Claim7 := { stood := { row := csrGuestsRow, standIns := [], harness := (true, "3ebc8c68bc18560f03b287be1235d50d790e5903d19e138e634401bf858d33ca"), looks := false }, kinds := [], alts := [], laidByText := true, laidKinds := [.data, .data, .data], laidTests := true, laidLooks := .later }
def CsrGuestsCardSaid : Prop := Claim7.holds Tryd.pinned (.plain (OpenSpec.ofChange csrGuestsSpec)) csrGuestsCard

/-- THE TIED CARD OF 'sallyportlaw8.CsrPending'. -/
def csrPendingCard : Claim7 := { stood := { row := csrPendingRow, standIns := [], harness := (true, "3ebc8c68bc18560f03b287be1235d50d790e5903d19e138e634401bf858d33ca"), looks := false }, kinds := [], alts := [], laidByText := true, laidKinds := [.data, .data, .data], laidTests := true, laidLooks := .later }
def CsrPendingCardSaid : Prop := Claim7.holds Tryd.pinned (.plain (OpenSpec.ofChange csrPendingSpec)) csrPendingCard

/-- THE SECOND FORM's CARD OF 'sallyportlaw8.CsrTells'. -/
def csrTellsUptoCard : Claim7 := { stood := { row := csrTellsUptoRow, standIns := [], harness := (true, "3ebc8c68bc18560f03b287be1235d50d790e5903d19e138e634401bf858d33ca"), looks := false }, kinds := [], alts := [], laidByText := true, laidKinds := [.data, .data, .data], laidTests := true, laidLooks := .later }
def CsrTellsUptoCardSaid : Prop := Claim7.holds Tryd.pinned (.plain (OpenSpec.upto csrTellsSpec)) csrTellsUptoCard

/-- THE SECOND FORM's CARD OF 'sallyportlaw8.CsrBack'. -/
def csrBackUptoCard : Claim7 := { stood := { row := csrBackUptoRow, standIns := [], harness := (true, "3ebc8c68bc18560f03b287be1235d50d790e5903d19e138e634401bf858d33ca"), looks := false }, kinds := [], alts := [], laidByText := true, laidKinds := [.data, .data, .data], laidTests := true, laidLooks := .later }
def CsrBackUptoCardSaid : Prop := Claim7.holds Tryd.pinned (.plain (OpenSpec.upto csrBackSpec)) csrBackUptoCard

/-- THE SECOND FORM's CARD OF 'sallyportlaw8.CsrViews'. -/
def csrViewsUptoCard : Claim7 := { stood := { row := csrViewsUptoRow, standIns := [], harness := (true, "3ebc8c68bc18560f03b287be1235d50d790e5903d19e138e634401bf858d33ca"), looks := false }, kinds := [], alts := [], laidByText := true, laidKinds := [.data, .data, .data], laidTests := true, laidLooks := .later }
def CsrViewsUptoCardSaid : Prop := Claim7.holds Tryd.pinned (.plain (OpenSpec.upto csrViewsSpec)) csrViewsUptoCard

/-- THE SECOND FORM's CARD OF 'sallyportlaw8.CsrNumbers'. -/
def csrNumbersUptoCard : Claim7 := { stood := { row := csrNumbersUptoRow, standIns := [], harness := (true, "3ebc8c68bc18560f03b287be1235d50d790e5903d19e138e634401bf858d33ca"), looks := false }, kinds := [], alts := [], laidByText := true, laidKinds := [.data, .data, .data], laidTests := true, laidLooks := .later }
def CsrNumbersUptoCardSaid : Prop := Claim7.holds Tryd.pinned (.plain (OpenSpec.upto csrNumbersSpec)) csrNumbersUptoCard

/-- THE SECOND FORM's CARD OF 'sallyportlaw8.CsrGuests'. -/
def csrGuestsUptoCard : Claim7 := { stood := { row := csrGuestsUptoRow, standIns := [], harness := (true, "3ebc8c68bc18560f03b287be1235d50d790e5903d19e138e634401bf858d33ca"), looks := false }, kinds := [], alts := [], laidByText := true, laidKinds := [.data, .data, .data], laidTests := true, laidLooks := .later }
def CsrGuestsUptoCardSaid : Prop := Claim7.holds Tryd.pinned (.plain (OpenSpec.upto csrGuestsSpec)) csrGuestsUptoCard

/-- THE SECOND FORM's CARD OF 'sallyportlaw8.CsrPending'. -/
def csrPendingUptoCard : Claim7 := { stood := { row := csrPendingUptoRow, standIns := [], harness := (true, "3ebc8c68bc18560f03b287be1235d50d790e5903d19e138e634401bf858d33ca"), looks := false }, kinds := [], alts := [], laidByText := true, laidKinds := [.data, .data, .data], laidTests := true, laidLooks := .later }
def CsrPendingUptoCardSaid : Prop := Claim7.holds Tryd.pinned (.plain (OpenSpec.upto csrPendingSpec)) csrPendingUptoCard
end Rows
end Go.Proofs.YtebdokgfcjlplaaDoor
