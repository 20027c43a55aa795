/-
  DERIVED. GIVEN WITH THE SEED: THE CARDS: each row of YthmanpfooegbcaaDoorRows.lean that lists a variable, with what it lists TIED to the program's text (the seventh form; the later family's looks); each row that meets fmt, with fmt's text TOLD by the authors' own Lean function (tested against real Go, not proved from fmt's source: count such statements apart). THE CARD IS WHAT COUNTS. Prove the row's statement (the work); the ties are given (YthmanpfooegbcaaDoorTie.lean); close each card by the builder's one call (the guide's Derived/Test/ToyasCard.lean, 'card_holds'). Laid BY PROGRAM, IN A SANDBOX (cutbox-door.mjs). By AI agents, Wed Nov 11 2026. No macro, syntax, notation, axiom, sorry.
-/
import Derived.Test.YthmanpfooegbcaaDoorRows
import GoSem.ClaimSeven
namespace Go.Proofs.YthmanpfooegbcaaDoor
namespace Rows

/-- THE TIED CARD OF 'sallyportlaw9.LegalTells'. -/
def legalTellsCard : Claim7 := { stood := { row := legalTellsRow, standIns := [], harness := (true, "6e8e46fa80ae414b6e8cef6bcadf52b85f24c2c8742b621cb920283c7caba147"), looks := false }, kinds := [], alts := [], laidByText := true, laidKinds := [.data, .data, .data, .data, .data, .data], laidTests := true, laidLooks := .later }
def LegalTellsCardSaid : Prop := Claim7.holds Tryd.pinned (.plain (OpenSpec.ofChange legalTellsSpec)) legalTellsCard

/-- THE TIED CARD OF 'sallyportlaw9.LegalMore'. -/
def legalMoreCard : Claim7 := { stood := { row := legalMoreRow, standIns := [], harness := (true, "6e8e46fa80ae414b6e8cef6bcadf52b85f24c2c8742b621cb920283c7caba147"), looks := false }, kinds := [], alts := [], laidByText := true, laidKinds := [.data, .data, .data, .data, .data, .data], laidTests := true, laidLooks := .later }
def LegalMoreCardSaid : Prop := Claim7.holds Tryd.pinned (.plain (OpenSpec.ofChange legalMoreSpec)) legalMoreCard

/-- THE TIED CARD OF 'sallyportlaw9.LegalGuest'. -/
def legalGuestCard : Claim7 := { stood := { row := legalGuestRow, standIns := [], harness := (true, "6e8e46fa80ae414b6e8cef6bcadf52b85f24c2c8742b621cb920283c7caba147"), looks := false }, kinds := [], alts := [], laidByText := true, laidKinds := [.data, .data, .data, .data, .data, .data], laidTests := true, laidLooks := .later }
def LegalGuestCardSaid : Prop := Claim7.holds Tryd.pinned (.plain (OpenSpec.ofChange legalGuestSpec)) legalGuestCard

/-- THE TIED CARD OF 'sallyportlaw9.LegalPlain'. -/
def legalPlainCard : Claim7 := { stood := { row := legalPlainRow, standIns := [], harness := (true, "6e8e46fa80ae414b6e8cef6bcadf52b85f24c2c8742b621cb920283c7caba147"), looks := false }, kinds := [], alts := [], laidByText := true, laidKinds := [.data, .data, .data, .data, .data, .data], laidTests := true, laidLooks := .later }
def LegalPlainCardSaid : Prop := Claim7.holds Tryd.pinned (.plain (OpenSpec.ofChange legalPlainSpec)) legalPlainCard

/-- THE TIED CARD OF 'sallyportlaw9.LegalReads'. -/
def legalReadsCard : Claim7 := { stood := { row := legalReadsRow, standIns := [], harness := (true, "6e8e46fa80ae414b6e8cef6bcadf52b85f24c2c8742b621cb920283c7caba147"), looks := false }, kinds := [], alts := [], laidByText := true, laidKinds := [.data, .data, .data, .data, .data, .data], laidTests := true, laidLooks := .later }
def LegalReadsCardSaid : Prop := Claim7.holds Tryd.pinned (.plain (OpenSpec.ofChange legalReadsSpec)) legalReadsCard

/-- THE SECOND FORM's CARD OF 'sallyportlaw9.LegalTells'. -/
def legalTellsUptoCard : Claim7 := { stood := { row := legalTellsUptoRow, standIns := [], harness := (true, "6e8e46fa80ae414b6e8cef6bcadf52b85f24c2c8742b621cb920283c7caba147"), looks := false }, kinds := [], alts := [], laidByText := true, laidKinds := [.data, .data, .data, .data, .data, .data], laidTests := true, laidLooks := .later }
def LegalTellsUptoCardSaid : Prop := Claim7.holds Tryd.pinned (.plain (OpenSpec.upto legalTellsSpec)) legalTellsUptoCard

/-- THE SECOND FORM's CARD OF 'sallyportlaw9.LegalMore'. -/
def legalMoreUptoCard : Claim7 := { stood := { row := legalMoreUptoRow, standIns := [], harness := (true, "6e8e46fa80ae414b6e8cef6bcadf52b85f24c2c8742b621cb920283c7caba147"), looks := false }, kinds := [], alts := [], laidByText := true, laidKinds := [.data, .data, .data, .data, .data, .data], laidTests := true, laidLooks := .later }
def LegalMoreUptoCardSaid : Prop := Claim7.holds Tryd.pinned (.plain (OpenSpec.upto legalMoreSpec)) legalMoreUptoCard

/-- THE SECOND FORM's CARD OF 'sallyportlaw9.LegalGuest'. -/
def legalGuestUptoCard : Claim7 := { stood := { row := legalGuestUptoRow, standIns := [], harness := (true, "6e8e46fa80ae414b6e8cef6bcadf52b85f24c2c8742b621cb920283c7caba147"), looks := false }, kinds := [], alts := [], laidByText := true, laidKinds := [.data, .data, .data, .data, .data, .data], laidTests := true, laidLooks := .later }
def LegalGuestUptoCardSaid : Prop := Claim7.holds Tryd.pinned (.plain (OpenSpec.upto legalGuestSpec)) legalGuestUptoCard

/-- THE SECOND FORM's CARD OF 'sallyportlaw9.LegalPlain'. -/
def legalPlainUptoCard : Claim7 := { stood := { row := legalPlainUptoRow, standIns := [], harness := (true, "6e8e46fa80ae414b6e8cef6bcadf52b85f24c2c8742b621cb920283c7caba147"), looks := false }, kinds := [], alts := [], laidByText := true, laidKinds := [.data, .data, .data, .data, .data, .data], laidTests := true, laidLooks := .later }
def LegalPlainUptoCardSaid : Prop := Claim7.holds Tryd.pinned (.plain (OpenSpec.upto legalPlainSpec)) legalPlainUptoCard

/-- THE SECOND FORM's CARD OF 'sallyportlaw9.LegalReads'. -/
def legalReadsUptoCard : Claim7 := { stood := { row := legalReadsUptoRow, standIns := [], harness := (true, "6e8e46fa80ae414b6e8cef6bcadf52b85f24c2c8742b621cb920283c7caba147"), looks := false }, kinds := [], alts := [], laidByText := true, laidKinds := [.data, .data, .data, .data, .data, .data], laidTests := true, laidLooks := .later }
def LegalReadsUptoCardSaid : Prop := Claim7.holds Tryd.pinned (.plain (OpenSpec.upto legalReadsSpec)) legalReadsUptoCard
end Rows
end Go.Proofs.YthmanpfooegbcaaDoor
