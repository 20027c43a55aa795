/-
  NARROWER THAN 'FOR EVERY INPUT', by the rows' own cells (each row's printed sentence says how): TwoTells: laid · TwoKept: laid · TwoOwn: laid · TwoBoth: laid · TwoOff: laid.
  DERIVED. THE GIVEN ROWS OF THIS SEAT. 5 by the template 'for every input the law returns true; each argument reads behind the call as it read before'; 0 by the template 'total and deterministic' (their statements: YtpplclenokfpeaaDoorTotals.lean).
  GIVEN WITH THE SEED: the statements are not yours to turn. If you find one false, say at which input.
  Laid BY PROGRAM, IN A SANDBOX (cutbox-rows.mjs): the forced cells as the released guide's own fill.sh prints them over the translation db4bed398d00a3a8… (all of the seat's roots in one cut). By AI agents, Wed Nov 11 2026. No macro, syntax, notation, axiom, sorry.
-/
import Derived.Test.YtpplclenokfpeaaDoorChecked
import GoSem.Claim
import GoSem.ClaimJoined
import GoSem.ClaimMapViews
import Derived.JoinedTies
import Derived.KernelRfl
namespace Go.Proofs.YtpplclenokfpeaaDoor
/- THE CELL 'sum', in the pinned program and in every row, IS THE sha256 OF THE DUMP (.gsa) THAT YtpplclenokfpeaaDoorProg.lean LOADS. Nothing in Lean hashes anything: it is a label: what it is worth is what the hold of that sum in a sandbox is worth. -/
noncomputable def Tryd.pinned : Pinned := { name := "ytpplclenokfpeaadoor", sum := "db4bed398d00a3a890ade2ae5ee0ed1cc01b16e5a630436dee98d5f4775f0e1c", checked := Tryd.checked }
namespace Rows
def none {H : Type} : Left H := { results := [], args := [] }

/- WHAT THE LISTED PACKAGE-LEVEL VARIABLES READ AS WHEN THE CALL BEGINS. Each datum BY PROGRAM (the guide's laid-datum.mjs) off the statement by which the dump's own 'gosem.cut.vars' lays the variable. In a bare row this is a premise. The card (YtpplclenokfpeaaDoorCards.lean) ties it to the program's text. -/
def laid_sallyport_pte_rights {H : Type} : DataW H := .agg [.agg [.lit (.int .i64 0), .lit (.int .i64 8), .lit (.bool false)], .agg [.lit (.int .i64 1), .lit (.int .i64 2), .lit (.bool false)], .agg [.lit (.int .i64 1), .lit (.int .i64 8), .lit (.bool true)], .agg [.lit (.int .i64 2), .lit (.int .i64 132), .lit (.bool false)]]

/-- 'sallyportlaw12.TwoTells': WHATEVER THE INPUT: true; the input reads as it did. -/
def twoTellsSpec : ChangeSpec := { name := "twoTells", fn := fun _ => fun
  | [d1, d2, d3, d4, d5, d6] => { results := [.lit (.bool true)], args := [d1, d2, d3, d4, d5, d6] }
  | _ => none }
def twoTellsRow : OpenClaim := { program := "ytpplclenokfpeaadoor", sum := "db4bed398d00a3a890ade2ae5ee0ed1cc01b16e5a630436dee98d5f4775f0e1c", func := "sallyport/sallyportlaw12.TwoTells", spec := "twoTells", named := ["sallyport/pte.rights"], apart := false, laid := [("sallyport/pte.rights", laid_sallyport_pte_rights)] }
def TwoTellsSaid : Prop := twoTellsRow.holds Tryd.pinned (OpenSpec.ofChange twoTellsSpec)

/-- ITS FALSE NEIGHBOUR: 'it returns false'. Refute it at one input. -/
def twoTellsWrong : ChangeSpec := { name := "twoTells", fn := fun _ => fun
  | [d1, d2, d3, d4, d5, d6] => { results := [.lit (.bool false)], args := [d1, d2, d3, d4, d5, d6] }
  | _ => none }
def TwoTellsWrongFalsely : Prop := twoTellsRow.holds Tryd.pinned (OpenSpec.ofChange twoTellsWrong)

/-- 'sallyportlaw12.TwoKept': WHATEVER THE INPUT: true; the input reads as it did. -/
def twoKeptSpec : ChangeSpec := { name := "twoKept", fn := fun _ => fun
  | [d1, d2, d3, d4, d5, d6, d7, d8] => { results := [.lit (.bool true)], args := [d1, d2, d3, d4, d5, d6, d7, d8] }
  | _ => none }
def twoKeptRow : OpenClaim := { program := "ytpplclenokfpeaadoor", sum := "db4bed398d00a3a890ade2ae5ee0ed1cc01b16e5a630436dee98d5f4775f0e1c", func := "sallyport/sallyportlaw12.TwoKept", spec := "twoKept", named := ["sallyport/pte.rights"], apart := false, laid := [("sallyport/pte.rights", laid_sallyport_pte_rights)] }
def TwoKeptSaid : Prop := twoKeptRow.holds Tryd.pinned (OpenSpec.ofChange twoKeptSpec)

/-- ITS FALSE NEIGHBOUR: 'it returns false'. Refute it at one input. -/
def twoKeptWrong : ChangeSpec := { name := "twoKept", fn := fun _ => fun
  | [d1, d2, d3, d4, d5, d6, d7, d8] => { results := [.lit (.bool false)], args := [d1, d2, d3, d4, d5, d6, d7, d8] }
  | _ => none }
def TwoKeptWrongFalsely : Prop := twoKeptRow.holds Tryd.pinned (OpenSpec.ofChange twoKeptWrong)

/-- 'sallyportlaw12.TwoOwn': WHATEVER THE INPUT: true; the input reads as it did. -/
def twoOwnSpec : ChangeSpec := { name := "twoOwn", fn := fun _ => fun
  | [d1, d2, d3, d4] => { results := [.lit (.bool true)], args := [d1, d2, d3, d4] }
  | _ => none }
def twoOwnRow : OpenClaim := { program := "ytpplclenokfpeaadoor", sum := "db4bed398d00a3a890ade2ae5ee0ed1cc01b16e5a630436dee98d5f4775f0e1c", func := "sallyport/sallyportlaw12.TwoOwn", spec := "twoOwn", named := ["sallyport/pte.rights"], apart := false, laid := [("sallyport/pte.rights", laid_sallyport_pte_rights)] }
def TwoOwnSaid : Prop := twoOwnRow.holds Tryd.pinned (OpenSpec.ofChange twoOwnSpec)

/-- ITS FALSE NEIGHBOUR: 'it returns false'. Refute it at one input. -/
def twoOwnWrong : ChangeSpec := { name := "twoOwn", fn := fun _ => fun
  | [d1, d2, d3, d4] => { results := [.lit (.bool false)], args := [d1, d2, d3, d4] }
  | _ => none }
def TwoOwnWrongFalsely : Prop := twoOwnRow.holds Tryd.pinned (OpenSpec.ofChange twoOwnWrong)

/-- 'sallyportlaw12.TwoBoth': WHATEVER THE INPUT: true; the input reads as it did. -/
def twoBothSpec : ChangeSpec := { name := "twoBoth", fn := fun _ => fun
  | [d1, d2, d3, d4, d5] => { results := [.lit (.bool true)], args := [d1, d2, d3, d4, d5] }
  | _ => none }
def twoBothRow : OpenClaim := { program := "ytpplclenokfpeaadoor", sum := "db4bed398d00a3a890ade2ae5ee0ed1cc01b16e5a630436dee98d5f4775f0e1c", func := "sallyport/sallyportlaw12.TwoBoth", spec := "twoBoth", named := ["sallyport/pte.rights"], apart := false, laid := [("sallyport/pte.rights", laid_sallyport_pte_rights)] }
def TwoBothSaid : Prop := twoBothRow.holds Tryd.pinned (OpenSpec.ofChange twoBothSpec)

/-- ITS FALSE NEIGHBOUR: 'it returns false'. Refute it at one input. -/
def twoBothWrong : ChangeSpec := { name := "twoBoth", fn := fun _ => fun
  | [d1, d2, d3, d4, d5] => { results := [.lit (.bool false)], args := [d1, d2, d3, d4, d5] }
  | _ => none }
def TwoBothWrongFalsely : Prop := twoBothRow.holds Tryd.pinned (OpenSpec.ofChange twoBothWrong)

/-- 'sallyportlaw12.TwoOff': WHATEVER THE INPUT: true; the input reads as it did. -/
def twoOffSpec : ChangeSpec := { name := "twoOff", fn := fun _ => fun
  | [d1, d2, d3] => { results := [.lit (.bool true)], args := [d1, d2, d3] }
  | _ => none }
def twoOffRow : OpenClaim := { program := "ytpplclenokfpeaadoor", sum := "db4bed398d00a3a890ade2ae5ee0ed1cc01b16e5a630436dee98d5f4775f0e1c", func := "sallyport/sallyportlaw12.TwoOff", spec := "twoOff", named := ["sallyport/pte.rights"], apart := false, laid := [("sallyport/pte.rights", laid_sallyport_pte_rights)] }
def TwoOffSaid : Prop := twoOffRow.holds Tryd.pinned (OpenSpec.ofChange twoOffSpec)

/-- ITS FALSE NEIGHBOUR: 'it returns false'. Refute it at one input. -/
def twoOffWrong : ChangeSpec := { name := "twoOff", fn := fun _ => fun
  | [d1, d2, d3] => { results := [.lit (.bool false)], args := [d1, d2, d3] }
  | _ => none }
def TwoOffWrongFalsely : Prop := twoOffRow.holds Tryd.pinned (OpenSpec.ofChange twoOffWrong)

/- THE SECOND FORM. 'bulk': how many values and letters a reading holds, each counted each time it is reached (what is shared counts as often as it is met; a slice's spare places count too). A statement '..UptoSaid' is the law's where the arguments, and the package variables that the reading takes, are together of bulk at most 1048576: NARROWER than '..Said'. Prove '..Said' where nothing that the law and all that it calls make is longer than what came in: it says more and counts as full. Else prove '..UptoSaid'. A law counts once. -/
mutual
def uptoBulk {H : Type} : DataW H → Nat
  | .lit (.string bytes) => bytes.length + 1
  | .lit _ => 1
  | .nil => 1
  | .ptr d => uptoBulk d + 1
  | .slice elems spare => uptoBulkAll elems + uptoBulkAll spare + 1
  | .agg parts => uptoBulkAll parts + 1
  | .iface _ d => uptoBulk d + 1
  | .map entries => uptoBulkEntries entries + 1
  | .held _ => 1
def uptoBulkAll {H : Type} : List (DataW H) → Nat
  | [] => 0
  | d :: r => uptoBulk d + uptoBulkAll r
def uptoBulkEntries {H : Type} : List (Lit × DataW H) → Nat
  | [] => 0
  | x :: r => uptoBulkEntry x + uptoBulkEntries r
def uptoBulkEntry {H : Type} : Lit × DataW H → Nat
  | (.string bytes, d) => bytes.length + uptoBulk d + 1
  | (_, d) => uptoBulk d + 1
 end
def uptoSmall : (H : Type) → List (DataW H) → Bool := fun _ ds => decide (uptoBulkAll ds ≤ 1048576)
def OpenSpec.upto (s : _root_.Go.ChangeSpec) : _root_.Go.OpenSpec := { _root_.Go.OpenSpec.ofChange s with cond := some uptoSmall }

/-- 'sallyportlaw12.TwoTells', WHERE WHAT IT READS IS OF BULK AT MOST 1048576: true; the input reads as it did. -/
def twoTellsUptoRow : OpenClaim := { program := "ytpplclenokfpeaadoor", sum := "db4bed398d00a3a890ade2ae5ee0ed1cc01b16e5a630436dee98d5f4775f0e1c", func := "sallyport/sallyportlaw12.TwoTells", spec := "twoTells", named := ["sallyport/pte.rights"], apart := false, laid := [("sallyport/pte.rights", laid_sallyport_pte_rights)], narrowed := true }
def TwoTellsUptoSaid : Prop := twoTellsUptoRow.holds Tryd.pinned (OpenSpec.upto twoTellsSpec)

/-- 'sallyportlaw12.TwoKept', WHERE WHAT IT READS IS OF BULK AT MOST 1048576: true; the input reads as it did. -/
def twoKeptUptoRow : OpenClaim := { program := "ytpplclenokfpeaadoor", sum := "db4bed398d00a3a890ade2ae5ee0ed1cc01b16e5a630436dee98d5f4775f0e1c", func := "sallyport/sallyportlaw12.TwoKept", spec := "twoKept", named := ["sallyport/pte.rights"], apart := false, laid := [("sallyport/pte.rights", laid_sallyport_pte_rights)], narrowed := true }
def TwoKeptUptoSaid : Prop := twoKeptUptoRow.holds Tryd.pinned (OpenSpec.upto twoKeptSpec)

/-- 'sallyportlaw12.TwoOwn', WHERE WHAT IT READS IS OF BULK AT MOST 1048576: true; the input reads as it did. -/
def twoOwnUptoRow : OpenClaim := { program := "ytpplclenokfpeaadoor", sum := "db4bed398d00a3a890ade2ae5ee0ed1cc01b16e5a630436dee98d5f4775f0e1c", func := "sallyport/sallyportlaw12.TwoOwn", spec := "twoOwn", named := ["sallyport/pte.rights"], apart := false, laid := [("sallyport/pte.rights", laid_sallyport_pte_rights)], narrowed := true }
def TwoOwnUptoSaid : Prop := twoOwnUptoRow.holds Tryd.pinned (OpenSpec.upto twoOwnSpec)

/-- 'sallyportlaw12.TwoBoth', WHERE WHAT IT READS IS OF BULK AT MOST 1048576: true; the input reads as it did. -/
def twoBothUptoRow : OpenClaim := { program := "ytpplclenokfpeaadoor", sum := "db4bed398d00a3a890ade2ae5ee0ed1cc01b16e5a630436dee98d5f4775f0e1c", func := "sallyport/sallyportlaw12.TwoBoth", spec := "twoBoth", named := ["sallyport/pte.rights"], apart := false, laid := [("sallyport/pte.rights", laid_sallyport_pte_rights)], narrowed := true }
def TwoBothUptoSaid : Prop := twoBothUptoRow.holds Tryd.pinned (OpenSpec.upto twoBothSpec)

/-- 'sallyportlaw12.TwoOff', WHERE WHAT IT READS IS OF BULK AT MOST 1048576: true; the input reads as it did. -/
def twoOffUptoRow : OpenClaim := { program := "ytpplclenokfpeaadoor", sum := "db4bed398d00a3a890ade2ae5ee0ed1cc01b16e5a630436dee98d5f4775f0e1c", func := "sallyport/sallyportlaw12.TwoOff", spec := "twoOff", named := ["sallyport/pte.rights"], apart := false, laid := [("sallyport/pte.rights", laid_sallyport_pte_rights)], narrowed := true }
def TwoOffUptoSaid : Prop := twoOffUptoRow.holds Tryd.pinned (OpenSpec.upto twoOffSpec)

end Rows
end Go.Proofs.YtpplclenokfpeaaDoor
