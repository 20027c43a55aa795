/-
  DERIVED. GIVEN WITH THE SEED: THE CARDS: each row of YtpplclenokfpeaaDoorRows.lean that lists a variable, with what it lists TIED to the program's text (the seventh form; the later family's looks); each row that meets fmt, with fmt's text TOLD by the authors' own Lean function (tested against real Go, not proved from fmt's source: count such statements apart). THE CARD IS WHAT COUNTS. Prove the row's statement (the work); the ties are given (YtpplclenokfpeaaDoorTie.lean); close each card by the builder's one call (the guide's Derived/Test/ToyasCard.lean, 'card_holds'). Laid BY PROGRAM, IN A SANDBOX (cutbox-door.mjs). By AI agents, Wed Nov 11 2026. No macro, syntax, notation, axiom, sorry.
-/
import Derived.Test.YtpplclenokfpeaaDoorRows
import GoSem.ClaimSeven
namespace Go.Proofs.YtpplclenokfpeaaDoor
namespace Rows

/-- THE TIED CARD OF 'sallyportlaw12.TwoTells'. -/
def twoTellsCard : Claim7 := { stood := { row := twoTellsRow, standIns := [], harness := (true, "168fbce6e796400474162493e5b8fd6072a4d5baf370ec0de450120b5622e824"), looks := false }, kinds := [], alts := [], laidByText := true, laidKinds := [.data], laidTests := true, laidLooks := .later }
def TwoTellsCardSaid : Prop := Claim7.holds Tryd.pinned (.plain (OpenSpec.ofChange twoTellsSpec)) twoTellsCard

/-- THE TIED CARD OF 'sallyportlaw12.TwoKept'. -/
def twoKeptCard : Claim7 := { stood := { row := twoKeptRow, standIns := [], harness := (true, "168fbce6e796400474162493e5b8fd6072a4d5baf370ec0de450120b5622e824"), looks := false }, kinds := [], alts := [], laidByText := true, laidKinds := [.data], laidTests := true, laidLooks := .later }
def TwoKeptCardSaid : Prop := Claim7.holds Tryd.pinned (.plain (OpenSpec.ofChange twoKeptSpec)) twoKeptCard

/-- THE TIED CARD OF 'sallyportlaw12.TwoOwn'. -/
def twoOwnCard : Claim7 := { stood := { row := twoOwnRow, standIns := [], harness := (true, "168fbce6e796400474162493e5b8fd6072a4d5baf370ec0de450120b5622e824"), looks := false }, kinds := [], alts := [], laidByText := true, laidKinds := [.data], laidTests := true, laidLooks := .later }
def TwoOwnCardSaid : Prop := Claim7.holds Tryd.pinned (.plain (OpenSpec.ofChange twoOwnSpec)) twoOwnCard

/-- THE TIED CARD OF 'sallyportlaw12.TwoBoth'. -/
def twoBothCard : Claim7 := { stood := { row := twoBothRow, standIns := [], harness := (true, "168fbce6e796400474162493e5b8fd6072a4d5baf370ec0de450120b5622e824"), looks := false }, kinds := [], alts := [], laidByText := true, laidKinds := [.data], laidTests := true, laidLooks := .later }
def TwoBothCardSaid : Prop := Claim7.holds Tryd.pinned (.plain (OpenSpec.ofChange twoBothSpec)) twoBothCard

/-- THE TIED CARD OF 'sallyportlaw12.TwoOff'. -/
def twoOffCard : Claim7 := { stood := { row := twoOffRow, standIns := [], harness := (true, "168fbce6e796400474162493e5b8fd6072a4d5baf370ec0de450120b5622e824"), looks := false }, kinds := [], alts := [], laidByText := true, laidKinds := [.data], laidTests := true, laidLooks := .later }
def TwoOffCardSaid : Prop := Claim7.holds Tryd.pinned (.plain (OpenSpec.ofChange twoOffSpec)) twoOffCard

/-- THE SECOND FORM's CARD OF 'sallyportlaw12.TwoTells'. -/
def twoTellsUptoCard : Claim7 := { stood := { row := twoTellsUptoRow, standIns := [], harness := (true, "168fbce6e796400474162493e5b8fd6072a4d5baf370ec0de450120b5622e824"), looks := false }, kinds := [], alts := [], laidByText := true, laidKinds := [.data], laidTests := true, laidLooks := .later }
def TwoTellsUptoCardSaid : Prop := Claim7.holds Tryd.pinned (.plain (OpenSpec.upto twoTellsSpec)) twoTellsUptoCard

/-- THE SECOND FORM's CARD OF 'sallyportlaw12.TwoKept'. -/
def twoKeptUptoCard : Claim7 := { stood := { row := twoKeptUptoRow, standIns := [], harness := (true, "168fbce6e796400474162493e5b8fd6072a4d5baf370ec0de450120b5622e824"), looks := false }, kinds := [], alts := [], laidByText := true, laidKinds := [.data], laidTests := true, laidLooks := .later }
def TwoKeptUptoCardSaid : Prop := Claim7.holds Tryd.pinned (.plain (OpenSpec.upto twoKeptSpec)) twoKeptUptoCard

/-- THE SECOND FORM's CARD OF 'sallyportlaw12.TwoOwn'. -/
def twoOwnUptoCard : Claim7 := { stood := { row := twoOwnUptoRow, standIns := [], harness := (true, "168fbce6e796400474162493e5b8fd6072a4d5baf370ec0de450120b5622e824"), looks := false }, kinds := [], alts := [], laidByText := true, laidKinds := [.data], laidTests := true, laidLooks := .later }
def TwoOwnUptoCardSaid : Prop := Claim7.holds Tryd.pinned (.plain (OpenSpec.upto twoOwnSpec)) twoOwnUptoCard

/-- THE SECOND FORM's CARD OF 'sallyportlaw12.TwoBoth'. -/
def twoBothUptoCard : Claim7 := { stood := { row := twoBothUptoRow, standIns := [], harness := (true, "168fbce6e796400474162493e5b8fd6072a4d5baf370ec0de450120b5622e824"), looks := false }, kinds := [], alts := [], laidByText := true, laidKinds := [.data], laidTests := true, laidLooks := .later }
def TwoBothUptoCardSaid : Prop := Claim7.holds Tryd.pinned (.plain (OpenSpec.upto twoBothSpec)) twoBothUptoCard

/-- THE SECOND FORM's CARD OF 'sallyportlaw12.TwoOff'. -/
def twoOffUptoCard : Claim7 := { stood := { row := twoOffUptoRow, standIns := [], harness := (true, "168fbce6e796400474162493e5b8fd6072a4d5baf370ec0de450120b5622e824"), looks := false }, kinds := [], alts := [], laidByText := true, laidKinds := [.data], laidTests := true, laidLooks := .later }
def TwoOffUptoCardSaid : Prop := Claim7.holds Tryd.pinned (.plain (OpenSpec.upto twoOffSpec)) twoOffUptoCard
end Rows
end Go.Proofs.YtpplclenokfpeaaDoor
