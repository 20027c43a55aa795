/-
  DERIVED. GIVEN WITH THE SEED: THE CARDS: each row of YtdogjmimjjmmaaaDoorRows.lean that lists a variable, with what it lists TIED to the program's text (the seventh form; the later family's looks); each row that meets fmt, with fmt's text TOLD by the authors' own Lean function (tested against real Go, not proved from fmt's source: count such statements apart). THE CARD IS WHAT COUNTS. Prove the row's statement (the work); the ties are given (YtdogjmimjjmmaaaDoorTie.lean); close each card by the builder's one call (the guide's Derived/Test/ToyasCard.lean, 'card_holds'). Laid BY PROGRAM, IN A SANDBOX (cutbox-door.mjs). By AI agents, Wed Nov 11 2026. No macro, syntax, notation, axiom, sorry.
-/
import Derived.Test.YtdogjmimjjmmaaaDoorRows
import GoSem.ClaimSeven
namespace Go.Proofs.YtdogjmimjjmmaaaDoor
namespace Rows

/-- THE TIED CARD OF 'sallyportlaw4.EncodeTells'. -/
def encodeTellsCard : Claim7 := { stood := { row := encodeTellsRow, standIns := [], harness := (true, "1c16012ade837a78ed222736aa442885d0f83ffdf79c8235f1bd7fa3dbad13ed"), looks := false }, kinds := [], alts := [], laidByText := true, laidKinds := [.data, .data, .data, .data, .data, .data, .data], laidTests := true, laidLooks := .later }
def EncodeTellsCardSaid : Prop := Claim7.holds Tryd.pinned (.plain (OpenSpec.ofChange encodeTellsSpec)) encodeTellsCard

/-- THE TIED CARD OF 'sallyportlaw4.EncodeBack'. -/
def encodeBackCard : Claim7 := { stood := { row := encodeBackRow, standIns := [], harness := (true, "1c16012ade837a78ed222736aa442885d0f83ffdf79c8235f1bd7fa3dbad13ed"), looks := false }, kinds := [], alts := [], laidByText := true, laidKinds := [.data, .data, .data, .data, .data, .data, .data, .data, .data], laidTests := true, laidLooks := .later }
def EncodeBackCardSaid : Prop := Claim7.holds Tryd.pinned (.plain (OpenSpec.ofChange encodeBackSpec)) encodeBackCard

/-- THE TIED CARD OF 'sallyportlaw4.EncodeRows'. -/
def encodeRowsCard : Claim7 := { stood := { row := encodeRowsRow, standIns := [], harness := (true, "1c16012ade837a78ed222736aa442885d0f83ffdf79c8235f1bd7fa3dbad13ed"), looks := false }, kinds := [], alts := [], laidByText := true, laidKinds := [.data, .data, .data, .data, .data, .data, .data], laidTests := true, laidLooks := .later }
def EncodeRowsCardSaid : Prop := Claim7.holds Tryd.pinned (.plain (OpenSpec.ofChange encodeRowsSpec)) encodeRowsCard

/-- THE TIED CARD OF 'sallyportlaw4.EncodeApart'. -/
def encodeApartCard : Claim7 := { stood := { row := encodeApartRow, standIns := [], harness := (true, "1c16012ade837a78ed222736aa442885d0f83ffdf79c8235f1bd7fa3dbad13ed"), looks := false }, kinds := [], alts := [], laidByText := true, laidKinds := [.data, .data, .data, .data, .data, .data, .data], laidTests := true, laidLooks := .later }
def EncodeApartCardSaid : Prop := Claim7.holds Tryd.pinned (.plain (OpenSpec.ofChange encodeApartSpec)) encodeApartCard

/-- THE TIED CARD OF 'sallyportlaw4.EncodeJumps'. -/
def encodeJumpsCard : Claim7 := { stood := { row := encodeJumpsRow, standIns := [], harness := (true, "1c16012ade837a78ed222736aa442885d0f83ffdf79c8235f1bd7fa3dbad13ed"), looks := false }, kinds := [], alts := [], laidByText := true, laidKinds := [.data, .data, .data, .data, .data, .data, .data], laidTests := true, laidLooks := .later }
def EncodeJumpsCardSaid : Prop := Claim7.holds Tryd.pinned (.plain (OpenSpec.ofChange encodeJumpsSpec)) encodeJumpsCard

/-- THE TIED CARD OF 'sallyportlaw4.EncodeTexts'. -/
def encodeTextsCard : Claim7 := { stood := { row := encodeTextsRow, standIns := [], harness := (true, "1c16012ade837a78ed222736aa442885d0f83ffdf79c8235f1bd7fa3dbad13ed"), looks := false }, kinds := [], alts := [], laidByText := true, laidKinds := [.data, .data, .data, .data, .data, .data, .data], laidTests := true, laidLooks := .later }
def EncodeTextsCardSaid : Prop := Claim7.holds Tryd.pinned (.plain (OpenSpec.ofChange encodeTextsSpec)) encodeTextsCard

/-- THE SECOND FORM's CARD OF 'sallyportlaw4.EncodeTells'. -/
def encodeTellsUptoCard : Claim7 := { stood := { row := encodeTellsUptoRow, standIns := [], harness := (true, "1c16012ade837a78ed222736aa442885d0f83ffdf79c8235f1bd7fa3dbad13ed"), looks := false }, kinds := [], alts := [], laidByText := true, laidKinds := [.data, .data, .data, .data, .data, .data, .data], laidTests := true, laidLooks := .later }
def EncodeTellsUptoCardSaid : Prop := Claim7.holds Tryd.pinned (.plain (OpenSpec.upto encodeTellsSpec)) encodeTellsUptoCard

/-- THE SECOND FORM's CARD OF 'sallyportlaw4.EncodeBack'. -/
def encodeBackUptoCard : Claim7 := { stood := { row := encodeBackUptoRow, standIns := [], harness := (true, "1c16012ade837a78ed222736aa442885d0f83ffdf79c8235f1bd7fa3dbad13ed"), looks := false }, kinds := [], alts := [], laidByText := true, laidKinds := [.data, .data, .data, .data, .data, .data, .data, .data, .data], laidTests := true, laidLooks := .later }
def EncodeBackUptoCardSaid : Prop := Claim7.holds Tryd.pinned (.plain (OpenSpec.upto encodeBackSpec)) encodeBackUptoCard

/-- THE SECOND FORM's CARD OF 'sallyportlaw4.EncodeRows'. -/
def encodeRowsUptoCard : Claim7 := { stood := { row := encodeRowsUptoRow, standIns := [], harness := (true, "1c16012ade837a78ed222736aa442885d0f83ffdf79c8235f1bd7fa3dbad13ed"), looks := false }, kinds := [], alts := [], laidByText := true, laidKinds := [.data, .data, .data, .data, .data, .data, .data], laidTests := true, laidLooks := .later }
def EncodeRowsUptoCardSaid : Prop := Claim7.holds Tryd.pinned (.plain (OpenSpec.upto encodeRowsSpec)) encodeRowsUptoCard

/-- THE SECOND FORM's CARD OF 'sallyportlaw4.EncodeApart'. -/
def encodeApartUptoCard : Claim7 := { stood := { row := encodeApartUptoRow, standIns := [], harness := (true, "1c16012ade837a78ed222736aa442885d0f83ffdf79c8235f1bd7fa3dbad13ed"), looks := false }, kinds := [], alts := [], laidByText := true, laidKinds := [.data, .data, .data, .data, .data, .data, .data], laidTests := true, laidLooks := .later }
def EncodeApartUptoCardSaid : Prop := Claim7.holds Tryd.pinned (.plain (OpenSpec.upto encodeApartSpec)) encodeApartUptoCard

/-- THE SECOND FORM's CARD OF 'sallyportlaw4.EncodeJumps'. -/
def encodeJumpsUptoCard : Claim7 := { stood := { row := encodeJumpsUptoRow, standIns := [], harness := (true, "1c16012ade837a78ed222736aa442885d0f83ffdf79c8235f1bd7fa3dbad13ed"), looks := false }, kinds := [], alts := [], laidByText := true, laidKinds := [.data, .data, .data, .data, .data, .data, .data], laidTests := true, laidLooks := .later }
def EncodeJumpsUptoCardSaid : Prop := Claim7.holds Tryd.pinned (.plain (OpenSpec.upto encodeJumpsSpec)) encodeJumpsUptoCard

/-- THE SECOND FORM's CARD OF 'sallyportlaw4.EncodeTexts'. -/
def encodeTextsUptoCard : Claim7 := { stood := { row := encodeTextsUptoRow, standIns := [], harness := (true, "1c16012ade837a78ed222736aa442885d0f83ffdf79c8235f1bd7fa3dbad13ed"), looks := false }, kinds := [], alts := [], laidByText := true, laidKinds := [.data, .data, .data, .data, .data, .data, .data], laidTests := true, laidLooks := .later }
def EncodeTextsUptoCardSaid : Prop := Claim7.holds Tryd.pinned (.plain (OpenSpec.upto encodeTextsSpec)) encodeTextsUptoCard
end Rows
end Go.Proofs.YtdogjmimjjmmaaaDoor
