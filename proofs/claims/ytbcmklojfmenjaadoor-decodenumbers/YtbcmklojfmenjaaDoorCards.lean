/-
  DERIVED. GIVEN WITH THE SEED: THE CARDS: each row of YtbcmklojfmenjaaDoorRows.lean that lists a variable, with what it lists TIED to the program's text (the seventh form; the later family's looks); each row that meets fmt, with fmt's text TOLD by the authors' own Lean function (tested against real Go, not proved from fmt's source: count such statements apart). THE CARD IS WHAT COUNTS. Prove the row's statement (the work); the ties are given (YtbcmklojfmenjaaDoorTie.lean); close each card by the builder's one call (the guide's Derived/Test/ToyasCard.lean, 'card_holds'). Laid BY PROGRAM, IN A SANDBOX (cutbox-door.mjs). By AI agents, Wed Nov 11 2026. No macro, syntax, notation, axiom, sorry.
-/
import Derived.Test.YtbcmklojfmenjaaDoorRows
import GoSem.ClaimSeven
namespace Go.Proofs.YtbcmklojfmenjaaDoor
namespace Rows

/-- THE TIED CARD OF 'sallyportlaw3.DecodeTells'. -/
def decodeTellsCard : Claim7 := { stood := { row := decodeTellsRow, standIns := [], harness := (true, "b414f3304a3bcf53c62b2d78999e35ed42f5e7068c4f7fe78033e62f85dbfb22"), looks := false }, kinds := [], alts := [], laidByText := true, laidKinds := [.data, .data, .data], laidTests := true, laidLooks := .later }
def DecodeTellsCardSaid : Prop := Claim7.holds Tryd.pinned (.plain (OpenSpec.ofChange decodeTellsSpec)) decodeTellsCard

/-- THE TIED CARD OF 'sallyportlaw3.DecodeMade'. -/
def decodeMadeCard : Claim7 := { stood := { row := decodeMadeRow, standIns := [], harness := (true, "b414f3304a3bcf53c62b2d78999e35ed42f5e7068c4f7fe78033e62f85dbfb22"), looks := false }, kinds := [], alts := [], laidByText := true, laidKinds := [.data, .data, .data], laidTests := true, laidLooks := .later }
def DecodeMadeCardSaid : Prop := Claim7.holds Tryd.pinned (.plain (OpenSpec.ofChange decodeMadeSpec)) decodeMadeCard

/-- THE TIED CARD OF 'sallyportlaw3.DecodeTurned'. -/
def decodeTurnedCard : Claim7 := { stood := { row := decodeTurnedRow, standIns := [], harness := (true, "b414f3304a3bcf53c62b2d78999e35ed42f5e7068c4f7fe78033e62f85dbfb22"), looks := false }, kinds := [], alts := [], laidByText := true, laidKinds := [.data, .data, .data], laidTests := true, laidLooks := .later }
def DecodeTurnedCardSaid : Prop := Claim7.holds Tryd.pinned (.plain (OpenSpec.ofChange decodeTurnedSpec)) decodeTurnedCard

/-- THE TIED CARD OF 'sallyportlaw3.DecodeIs'. -/
def decodeIsCard : Claim7 := { stood := { row := decodeIsRow, standIns := [], harness := (true, "b414f3304a3bcf53c62b2d78999e35ed42f5e7068c4f7fe78033e62f85dbfb22"), looks := false }, kinds := [], alts := [], laidByText := true, laidKinds := [.data, .data, .data], laidTests := true, laidLooks := .later }
def DecodeIsCardSaid : Prop := Claim7.holds Tryd.pinned (.plain (OpenSpec.ofChange decodeIsSpec)) decodeIsCard

/-- THE TIED CARD OF 'sallyportlaw3.DecodeNumbers'. -/
def decodeNumbersCard : Claim7 := { stood := { row := decodeNumbersRow, standIns := [], harness := (true, "b414f3304a3bcf53c62b2d78999e35ed42f5e7068c4f7fe78033e62f85dbfb22"), looks := false }, kinds := [], alts := [], laidByText := true, laidKinds := [.data, .data, .data], laidTests := true, laidLooks := .later }
def DecodeNumbersCardSaid : Prop := Claim7.holds Tryd.pinned (.plain (OpenSpec.ofChange decodeNumbersSpec)) decodeNumbersCard

/-- THE SECOND FORM's CARD OF 'sallyportlaw3.DecodeTells'. -/
def decodeTellsUptoCard : Claim7 := { stood := { row := decodeTellsUptoRow, standIns := [], harness := (true, "b414f3304a3bcf53c62b2d78999e35ed42f5e7068c4f7fe78033e62f85dbfb22"), looks := false }, kinds := [], alts := [], laidByText := true, laidKinds := [.data, .data, .data], laidTests := true, laidLooks := .later }
def DecodeTellsUptoCardSaid : Prop := Claim7.holds Tryd.pinned (.plain (OpenSpec.upto decodeTellsSpec)) decodeTellsUptoCard

/-- THE SECOND FORM's CARD OF 'sallyportlaw3.DecodeMade'. -/
def decodeMadeUptoCard : Claim7 := { stood := { row := decodeMadeUptoRow, standIns := [], harness := (true, "b414f3304a3bcf53c62b2d78999e35ed42f5e7068c4f7fe78033e62f85dbfb22"), looks := false }, kinds := [], alts := [], laidByText := true, laidKinds := [.data, .data, .data], laidTests := true, laidLooks := .later }
def DecodeMadeUptoCardSaid : Prop := Claim7.holds Tryd.pinned (.plain (OpenSpec.upto decodeMadeSpec)) decodeMadeUptoCard

/-- THE SECOND FORM's CARD OF 'sallyportlaw3.DecodeTurned'. -/
def decodeTurnedUptoCard : Claim7 := { stood := { row := decodeTurnedUptoRow, standIns := [], harness := (true, "b414f3304a3bcf53c62b2d78999e35ed42f5e7068c4f7fe78033e62f85dbfb22"), looks := false }, kinds := [], alts := [], laidByText := true, laidKinds := [.data, .data, .data], laidTests := true, laidLooks := .later }
def DecodeTurnedUptoCardSaid : Prop := Claim7.holds Tryd.pinned (.plain (OpenSpec.upto decodeTurnedSpec)) decodeTurnedUptoCard

/-- THE SECOND FORM's CARD OF 'sallyportlaw3.DecodeIs'. -/
def decodeIsUptoCard : Claim7 := { stood := { row := decodeIsUptoRow, standIns := [], harness := (true, "b414f3304a3bcf53c62b2d78999e35ed42f5e7068c4f7fe78033e62f85dbfb22"), looks := false }, kinds := [], alts := [], laidByText := true, laidKinds := [.data, .data, .data], laidTests := true, laidLooks := .later }
def DecodeIsUptoCardSaid : Prop := Claim7.holds Tryd.pinned (.plain (OpenSpec.upto decodeIsSpec)) decodeIsUptoCard

/-- THE SECOND FORM's CARD OF 'sallyportlaw3.DecodeNumbers'. -/
def decodeNumbersUptoCard : Claim7 := { stood := { row := decodeNumbersUptoRow, standIns := [], harness := (true, "b414f3304a3bcf53c62b2d78999e35ed42f5e7068c4f7fe78033e62f85dbfb22"), looks := false }, kinds := [], alts := [], laidByText := true, laidKinds := [.data, .data, .data], laidTests := true, laidLooks := .later }
def DecodeNumbersUptoCardSaid : Prop := Claim7.holds Tryd.pinned (.plain (OpenSpec.upto decodeNumbersSpec)) decodeNumbersUptoCard
end Rows
end Go.Proofs.YtbcmklojfmenjaaDoor
