/-
  DERIVED. GIVEN WITH THE SEED: THE CARDS: each row of YtgkcmfbkloeohaaDoorRows.lean that lists a variable, with what it lists TIED to the program's text (the seventh form; the later family's looks); each row that meets fmt, with fmt's text TOLD by the authors' own Lean function (tested against real Go, not proved from fmt's source: count such statements apart). THE CARD IS WHAT COUNTS. Prove the row's statement (the work); the ties are given (YtgkcmfbkloeohaaDoorTie.lean); close each card by the builder's one call (the guide's Derived/Test/ToyasCard.lean, 'card_holds'). Laid BY PROGRAM, IN A SANDBOX (cutbox-door.mjs). By AI agents, Wed Nov 11 2026. No macro, syntax, notation, axiom, sorry.
-/
import Derived.Test.YtgkcmfbkloeohaaDoorRows
import GoSem.ClaimSeven
namespace Go.Proofs.YtgkcmfbkloeohaaDoor
namespace Rows

/-- THE TIED CARD OF 'sallyportlaw2.InsnTells'. -/
def insnTellsCard : Claim7 := { stood := { row := insnTellsRow, standIns := [], harness := (true, "be3876be7d33f950fc6ba026316c6dd80a6e2b0da1fa7692fe11f769d3a5870a"), looks := false }, kinds := [], alts := [], laidByText := true, laidKinds := [.data], laidTests := true, laidLooks := .later }
def InsnTellsCardSaid : Prop := Claim7.holds Tryd.pinned (.plain (OpenSpec.ofChange insnTellsSpec)) insnTellsCard

/-- THE TIED CARD OF 'sallyportlaw2.InsnNames'. -/
def insnNamesCard : Claim7 := { stood := { row := insnNamesRow, standIns := [], harness := (true, "be3876be7d33f950fc6ba026316c6dd80a6e2b0da1fa7692fe11f769d3a5870a"), looks := false }, kinds := [], alts := [], laidByText := true, laidKinds := [.data], laidTests := true, laidLooks := .later }
def InsnNamesCardSaid : Prop := Claim7.holds Tryd.pinned (.plain (OpenSpec.ofChange insnNamesSpec)) insnNamesCard

/-- THE TIED CARD OF 'sallyportlaw2.InsnFields'. -/
def insnFieldsCard : Claim7 := { stood := { row := insnFieldsRow, standIns := [], harness := (true, "be3876be7d33f950fc6ba026316c6dd80a6e2b0da1fa7692fe11f769d3a5870a"), looks := false }, kinds := [], alts := [], laidByText := true, laidKinds := [.data], laidTests := true, laidLooks := .later }
def InsnFieldsCardSaid : Prop := Claim7.holds Tryd.pinned (.plain (OpenSpec.ofChange insnFieldsSpec)) insnFieldsCard

/-- THE TIED CARD OF 'sallyportlaw2.InsnReads'. -/
def insnReadsCard : Claim7 := { stood := { row := insnReadsRow, standIns := [], harness := (true, "be3876be7d33f950fc6ba026316c6dd80a6e2b0da1fa7692fe11f769d3a5870a"), looks := false }, kinds := [], alts := [], laidByText := true, laidKinds := [.data], laidTests := true, laidLooks := .later }
def InsnReadsCardSaid : Prop := Claim7.holds Tryd.pinned (.plain (OpenSpec.ofChange insnReadsSpec)) insnReadsCard

/-- THE TIED CARD OF 'sallyportlaw2.InsnClasses'. -/
def insnClassesCard : Claim7 := { stood := { row := insnClassesRow, standIns := [], harness := (true, "be3876be7d33f950fc6ba026316c6dd80a6e2b0da1fa7692fe11f769d3a5870a"), looks := false }, kinds := [], alts := [], laidByText := true, laidKinds := [.data], laidTests := true, laidLooks := .later }
def InsnClassesCardSaid : Prop := Claim7.holds Tryd.pinned (.plain (OpenSpec.ofChange insnClassesSpec)) insnClassesCard

/-- THE SECOND FORM's CARD OF 'sallyportlaw2.InsnTells'. -/
def insnTellsUptoCard : Claim7 := { stood := { row := insnTellsUptoRow, standIns := [], harness := (true, "be3876be7d33f950fc6ba026316c6dd80a6e2b0da1fa7692fe11f769d3a5870a"), looks := false }, kinds := [], alts := [], laidByText := true, laidKinds := [.data], laidTests := true, laidLooks := .later }
def InsnTellsUptoCardSaid : Prop := Claim7.holds Tryd.pinned (.plain (OpenSpec.upto insnTellsSpec)) insnTellsUptoCard

/-- THE SECOND FORM's CARD OF 'sallyportlaw2.InsnNames'. -/
def insnNamesUptoCard : Claim7 := { stood := { row := insnNamesUptoRow, standIns := [], harness := (true, "be3876be7d33f950fc6ba026316c6dd80a6e2b0da1fa7692fe11f769d3a5870a"), looks := false }, kinds := [], alts := [], laidByText := true, laidKinds := [.data], laidTests := true, laidLooks := .later }
def InsnNamesUptoCardSaid : Prop := Claim7.holds Tryd.pinned (.plain (OpenSpec.upto insnNamesSpec)) insnNamesUptoCard

/-- THE SECOND FORM's CARD OF 'sallyportlaw2.InsnFields'. -/
def insnFieldsUptoCard : Claim7 := { stood := { row := insnFieldsUptoRow, standIns := [], harness := (true, "be3876be7d33f950fc6ba026316c6dd80a6e2b0da1fa7692fe11f769d3a5870a"), looks := false }, kinds := [], alts := [], laidByText := true, laidKinds := [.data], laidTests := true, laidLooks := .later }
def InsnFieldsUptoCardSaid : Prop := Claim7.holds Tryd.pinned (.plain (OpenSpec.upto insnFieldsSpec)) insnFieldsUptoCard

/-- THE SECOND FORM's CARD OF 'sallyportlaw2.InsnReads'. -/
def insnReadsUptoCard : Claim7 := { stood := { row := insnReadsUptoRow, standIns := [], harness := (true, "be3876be7d33f950fc6ba026316c6dd80a6e2b0da1fa7692fe11f769d3a5870a"), looks := false }, kinds := [], alts := [], laidByText := true, laidKinds := [.data], laidTests := true, laidLooks := .later }
def InsnReadsUptoCardSaid : Prop := Claim7.holds Tryd.pinned (.plain (OpenSpec.upto insnReadsSpec)) insnReadsUptoCard

/-- THE SECOND FORM's CARD OF 'sallyportlaw2.InsnClasses'. -/
def insnClassesUptoCard : Claim7 := { stood := { row := insnClassesUptoRow, standIns := [], harness := (true, "be3876be7d33f950fc6ba026316c6dd80a6e2b0da1fa7692fe11f769d3a5870a"), looks := false }, kinds := [], alts := [], laidByText := true, laidKinds := [.data], laidTests := true, laidLooks := .later }
def InsnClassesUptoCardSaid : Prop := Claim7.holds Tryd.pinned (.plain (OpenSpec.upto insnClassesSpec)) insnClassesUptoCard
end Rows
end Go.Proofs.YtgkcmfbkloeohaaDoor
