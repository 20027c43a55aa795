/-
  NARROWER THAN 'FOR EVERY INPUT', by the rows' own cells (each row's printed sentence says how): InsnTells: laid · InsnNames: laid · InsnFields: laid · InsnReads: laid · InsnClasses: laid.
  DERIVED. THE GIVEN ROWS OF THIS SEAT. 5 by the template 'for every input the law returns true; each argument reads behind the call as it read before'; 0 by the template 'total and deterministic' (their statements: YtgkcmfbkloeohaaDoorTotals.lean).
  GIVEN WITH THE SEED: the statements are not yours to turn. If you find one false, say at which input.
  Laid BY PROGRAM, IN A SANDBOX (cutbox-rows.mjs): the forced cells as the released guide's own fill.sh prints them over the translation 1c057ac86383589d… (all of the seat's roots in one cut). By AI agents, Wed Nov 11 2026. No macro, syntax, notation, axiom, sorry.
-/
import Derived.Test.YtgkcmfbkloeohaaDoorChecked
import GoSem.Claim
import GoSem.ClaimJoined
import GoSem.ClaimMapViews
import Derived.JoinedTies
import Derived.KernelRfl
namespace Go.Proofs.YtgkcmfbkloeohaaDoor
/- THE CELL 'sum', in the pinned program and in every row, IS THE sha256 OF THE DUMP (.gsa) THAT YtgkcmfbkloeohaaDoorProg.lean LOADS. Nothing in Lean hashes anything: it is a label: what it is worth is what the hold of that sum in a sandbox is worth. -/
noncomputable def Tryd.pinned : Pinned := { name := "ytgkcmfbkloeohaadoor", sum := "1c057ac86383589d9c90944bb457a365492e63cf3c73b4b0e764f1ab64c5ccb3", checked := Tryd.checked }
namespace Rows
def none {H : Type} : Left H := { results := [], args := [] }

/- WHAT THE LISTED PACKAGE-LEVEL VARIABLES READ AS WHEN THE CALL BEGINS. Each datum BY PROGRAM (the guide's laid-datum.mjs) off the statement by which the dump's own 'gosem.cut.vars' lays the variable. In a bare row this is a premise. The card (YtgkcmfbkloeohaaDoorCards.lean) ties it to the program's text. -/
def laid_sallyport_insn_groups {H : Type} : DataW H := .agg [.agg [.lit (.int .i64 1), .lit (.int .i64 2), .agg [.lit (.int .i64 1), .lit (.int .i64 1), .lit (.int .i64 (-2147483648)), .lit (.int .i64 2147479552), .lit (.int .i64 4096)]], .agg [.lit (.int .i64 3), .lit (.int .i64 3), .agg [.lit (.int .i64 1), .lit (.int .i64 1), .lit (.int .i64 (-1048576)), .lit (.int .i64 1048574), .lit (.int .i64 2)]], .agg [.lit (.int .i64 4), .lit (.int .i64 4), .agg [.lit (.int .i64 1), .lit (.int .i64 3), .lit (.int .i64 (-2048)), .lit (.int .i64 2047), .lit (.int .i64 1)]], .agg [.lit (.int .i64 5), .lit (.int .i64 10), .agg [.lit (.int .i64 2), .lit (.int .i64 6), .lit (.int .i64 (-4096)), .lit (.int .i64 4094), .lit (.int .i64 2)]], .agg [.lit (.int .i64 11), .lit (.int .i64 17), .agg [.lit (.int .i64 3), .lit (.int .i64 3), .lit (.int .i64 (-2048)), .lit (.int .i64 2047), .lit (.int .i64 1)]], .agg [.lit (.int .i64 18), .lit (.int .i64 21), .agg [.lit (.int .i64 4), .lit (.int .i64 6), .lit (.int .i64 (-2048)), .lit (.int .i64 2047), .lit (.int .i64 1)]], .agg [.lit (.int .i64 22), .lit (.int .i64 27), .agg [.lit (.int .i64 5), .lit (.int .i64 3), .lit (.int .i64 (-2048)), .lit (.int .i64 2047), .lit (.int .i64 1)]], .agg [.lit (.int .i64 28), .lit (.int .i64 30), .agg [.lit (.int .i64 5), .lit (.int .i64 3), .lit (.int .i64 0), .lit (.int .i64 63), .lit (.int .i64 1)]], .agg [.lit (.int .i64 31), .lit (.int .i64 31), .agg [.lit (.int .i64 5), .lit (.int .i64 3), .lit (.int .i64 (-2048)), .lit (.int .i64 2047), .lit (.int .i64 1)]], .agg [.lit (.int .i64 32), .lit (.int .i64 34), .agg [.lit (.int .i64 5), .lit (.int .i64 3), .lit (.int .i64 0), .lit (.int .i64 31), .lit (.int .i64 1)]], .agg [.lit (.int .i64 35), .lit (.int .i64 49), .agg [.lit (.int .i64 6), .lit (.int .i64 7), .lit (.int .i64 0), .lit (.int .i64 0), .lit (.int .i64 1)]], .agg [.lit (.int .i64 50), .lit (.int .i64 51), .agg [.lit (.int .i64 7), .lit (.int .i64 0), .lit (.int .i64 0), .lit (.int .i64 0), .lit (.int .i64 1)]], .agg [.lit (.int .i64 52), .lit (.int .i64 53), .agg [.lit (.int .i64 8), .lit (.int .i64 0), .lit (.int .i64 0), .lit (.int .i64 0), .lit (.int .i64 1)]], .agg [.lit (.int .i64 54), .lit (.int .i64 56), .agg [.lit (.int .i64 9), .lit (.int .i64 11), .lit (.int .i64 0), .lit (.int .i64 0), .lit (.int .i64 1)]], .agg [.lit (.int .i64 57), .lit (.int .i64 59), .agg [.lit (.int .i64 9), .lit (.int .i64 9), .lit (.int .i64 0), .lit (.int .i64 31), .lit (.int .i64 1)]], .agg [.lit (.int .i64 60), .lit (.int .i64 62), .agg [.lit (.int .i64 10), .lit (.int .i64 0), .lit (.int .i64 0), .lit (.int .i64 0), .lit (.int .i64 1)]], .agg [.lit (.int .i64 63), .lit (.int .i64 65), .agg [.lit (.int .i64 11), .lit (.int .i64 6), .lit (.int .i64 0), .lit (.int .i64 0), .lit (.int .i64 1)]], .agg [.lit (.int .i64 66), .lit (.int .i64 68), .agg [.lit (.int .i64 12), .lit (.int .i64 3), .lit (.int .i64 0), .lit (.int .i64 0), .lit (.int .i64 1)]], .agg [.lit (.int .i64 69), .lit (.int .i64 69), .agg [.lit (.int .i64 12), .lit (.int .i64 6), .lit (.int .i64 0), .lit (.int .i64 0), .lit (.int .i64 1)]]]

/-- 'sallyportlaw2.InsnTells': WHATEVER THE INPUT: true; the input reads as it did. -/
def insnTellsSpec : ChangeSpec := { name := "insnTells", fn := fun _ => fun
  | [d1, d2, d3] => { results := [.lit (.bool true)], args := [d1, d2, d3] }
  | _ => none }
def insnTellsRow : OpenClaim := { program := "ytgkcmfbkloeohaadoor", sum := "1c057ac86383589d9c90944bb457a365492e63cf3c73b4b0e764f1ab64c5ccb3", func := "sallyport/sallyportlaw2.InsnTells", spec := "insnTells", named := ["sallyport/insn.groups"], apart := false, laid := [("sallyport/insn.groups", laid_sallyport_insn_groups)] }
def InsnTellsSaid : Prop := insnTellsRow.holds Tryd.pinned (OpenSpec.ofChange insnTellsSpec)

/-- ITS FALSE NEIGHBOUR: 'it returns false'. Refute it at one input. -/
def insnTellsWrong : ChangeSpec := { name := "insnTells", fn := fun _ => fun
  | [d1, d2, d3] => { results := [.lit (.bool false)], args := [d1, d2, d3] }
  | _ => none }
def InsnTellsWrongFalsely : Prop := insnTellsRow.holds Tryd.pinned (OpenSpec.ofChange insnTellsWrong)

/-- 'sallyportlaw2.InsnNames': WHATEVER THE INPUT: true; the input reads as it did. -/
def insnNamesSpec : ChangeSpec := { name := "insnNames", fn := fun _ => fun
  | [d1, d2] => { results := [.lit (.bool true)], args := [d1, d2] }
  | _ => none }
def insnNamesRow : OpenClaim := { program := "ytgkcmfbkloeohaadoor", sum := "1c057ac86383589d9c90944bb457a365492e63cf3c73b4b0e764f1ab64c5ccb3", func := "sallyport/sallyportlaw2.InsnNames", spec := "insnNames", named := ["sallyport/insn.groups"], apart := false, laid := [("sallyport/insn.groups", laid_sallyport_insn_groups)] }
def InsnNamesSaid : Prop := insnNamesRow.holds Tryd.pinned (OpenSpec.ofChange insnNamesSpec)

/-- ITS FALSE NEIGHBOUR: 'it returns false'. Refute it at one input. -/
def insnNamesWrong : ChangeSpec := { name := "insnNames", fn := fun _ => fun
  | [d1, d2] => { results := [.lit (.bool false)], args := [d1, d2] }
  | _ => none }
def InsnNamesWrongFalsely : Prop := insnNamesRow.holds Tryd.pinned (OpenSpec.ofChange insnNamesWrong)

/-- 'sallyportlaw2.InsnFields': WHATEVER THE INPUT: true; the input reads as it did. -/
def insnFieldsSpec : ChangeSpec := { name := "insnFields", fn := fun _ => fun
  | [d1, d2] => { results := [.lit (.bool true)], args := [d1, d2] }
  | _ => none }
def insnFieldsRow : OpenClaim := { program := "ytgkcmfbkloeohaadoor", sum := "1c057ac86383589d9c90944bb457a365492e63cf3c73b4b0e764f1ab64c5ccb3", func := "sallyport/sallyportlaw2.InsnFields", spec := "insnFields", named := ["sallyport/insn.groups"], apart := false, laid := [("sallyport/insn.groups", laid_sallyport_insn_groups)] }
def InsnFieldsSaid : Prop := insnFieldsRow.holds Tryd.pinned (OpenSpec.ofChange insnFieldsSpec)

/-- ITS FALSE NEIGHBOUR: 'it returns false'. Refute it at one input. -/
def insnFieldsWrong : ChangeSpec := { name := "insnFields", fn := fun _ => fun
  | [d1, d2] => { results := [.lit (.bool false)], args := [d1, d2] }
  | _ => none }
def InsnFieldsWrongFalsely : Prop := insnFieldsRow.holds Tryd.pinned (OpenSpec.ofChange insnFieldsWrong)

/-- 'sallyportlaw2.InsnReads': WHATEVER THE INPUT: true; the input reads as it did. -/
def insnReadsSpec : ChangeSpec := { name := "insnReads", fn := fun _ => fun
  | [d] => { results := [.lit (.bool true)], args := [d] }
  | _ => none }
def insnReadsRow : OpenClaim := { program := "ytgkcmfbkloeohaadoor", sum := "1c057ac86383589d9c90944bb457a365492e63cf3c73b4b0e764f1ab64c5ccb3", func := "sallyport/sallyportlaw2.InsnReads", spec := "insnReads", named := ["sallyport/insn.groups"], apart := false, laid := [("sallyport/insn.groups", laid_sallyport_insn_groups)] }
def InsnReadsSaid : Prop := insnReadsRow.holds Tryd.pinned (OpenSpec.ofChange insnReadsSpec)

/-- ITS FALSE NEIGHBOUR: 'it returns false'. Refute it at one input. -/
def insnReadsWrong : ChangeSpec := { name := "insnReads", fn := fun _ => fun
  | [d] => { results := [.lit (.bool false)], args := [d] }
  | _ => none }
def InsnReadsWrongFalsely : Prop := insnReadsRow.holds Tryd.pinned (OpenSpec.ofChange insnReadsWrong)

/-- 'sallyportlaw2.InsnClasses': WHATEVER THE INPUT: true; the input reads as it did. -/
def insnClassesSpec : ChangeSpec := { name := "insnClasses", fn := fun _ => fun
  | [d] => { results := [.lit (.bool true)], args := [d] }
  | _ => none }
def insnClassesRow : OpenClaim := { program := "ytgkcmfbkloeohaadoor", sum := "1c057ac86383589d9c90944bb457a365492e63cf3c73b4b0e764f1ab64c5ccb3", func := "sallyport/sallyportlaw2.InsnClasses", spec := "insnClasses", named := ["sallyport/insn.groups"], apart := false, laid := [("sallyport/insn.groups", laid_sallyport_insn_groups)] }
def InsnClassesSaid : Prop := insnClassesRow.holds Tryd.pinned (OpenSpec.ofChange insnClassesSpec)

/-- ITS FALSE NEIGHBOUR: 'it returns false'. Refute it at one input. -/
def insnClassesWrong : ChangeSpec := { name := "insnClasses", fn := fun _ => fun
  | [d] => { results := [.lit (.bool false)], args := [d] }
  | _ => none }
def InsnClassesWrongFalsely : Prop := insnClassesRow.holds Tryd.pinned (OpenSpec.ofChange insnClassesWrong)

/- THE SECOND FORM. 'bulk': how many values and letters a reading holds, each counted each time it is reached (what is shared counts as often as it is met; a slice's spare places count too). A statement '..UptoSaid' is the law's where the arguments, and the package variables that the reading takes, are together of bulk at most 1048576: NARROWER than '..Said'. Prove '..Said' where nothing that the law and all that it calls make is longer than what came in: it says more and counts as full. Else prove '..UptoSaid'. A law counts once. -/
mutual
def uptoBulk {H : Type} : DataW H → Nat
  | .lit (.string bytes) => bytes.length + 1
  | .lit _ => 1
  | .nil => 1
  | .ptr d => uptoBulk d + 1
  | .slice elems spare => uptoBulkAll elems + uptoBulkAll spare + 1
  | .agg parts => uptoBulkAll parts + 1
  | .iface _ d => uptoBulk d + 1
  | .map entries => uptoBulkEntries entries + 1
  | .held _ => 1
def uptoBulkAll {H : Type} : List (DataW H) → Nat
  | [] => 0
  | d :: r => uptoBulk d + uptoBulkAll r
def uptoBulkEntries {H : Type} : List (Lit × DataW H) → Nat
  | [] => 0
  | x :: r => uptoBulkEntry x + uptoBulkEntries r
def uptoBulkEntry {H : Type} : Lit × DataW H → Nat
  | (.string bytes, d) => bytes.length + uptoBulk d + 1
  | (_, d) => uptoBulk d + 1
 end
def uptoSmall : (H : Type) → List (DataW H) → Bool := fun _ ds => decide (uptoBulkAll ds ≤ 1048576)
def OpenSpec.upto (s : _root_.Go.ChangeSpec) : _root_.Go.OpenSpec := { _root_.Go.OpenSpec.ofChange s with cond := some uptoSmall }

/-- 'sallyportlaw2.InsnTells', WHERE WHAT IT READS IS OF BULK AT MOST 1048576: true; the input reads as it did. -/
def insnTellsUptoRow : OpenClaim := { program := "ytgkcmfbkloeohaadoor", sum := "1c057ac86383589d9c90944bb457a365492e63cf3c73b4b0e764f1ab64c5ccb3", func := "sallyport/sallyportlaw2.InsnTells", spec := "insnTells", named := ["sallyport/insn.groups"], apart := false, laid := [("sallyport/insn.groups", laid_sallyport_insn_groups)], narrowed := true }
def InsnTellsUptoSaid : Prop := insnTellsUptoRow.holds Tryd.pinned (OpenSpec.upto insnTellsSpec)

/-- 'sallyportlaw2.InsnNames', WHERE WHAT IT READS IS OF BULK AT MOST 1048576: true; the input reads as it did. -/
def insnNamesUptoRow : OpenClaim := { program := "ytgkcmfbkloeohaadoor", sum := "1c057ac86383589d9c90944bb457a365492e63cf3c73b4b0e764f1ab64c5ccb3", func := "sallyport/sallyportlaw2.InsnNames", spec := "insnNames", named := ["sallyport/insn.groups"], apart := false, laid := [("sallyport/insn.groups", laid_sallyport_insn_groups)], narrowed := true }
def InsnNamesUptoSaid : Prop := insnNamesUptoRow.holds Tryd.pinned (OpenSpec.upto insnNamesSpec)

/-- 'sallyportlaw2.InsnFields', WHERE WHAT IT READS IS OF BULK AT MOST 1048576: true; the input reads as it did. -/
def insnFieldsUptoRow : OpenClaim := { program := "ytgkcmfbkloeohaadoor", sum := "1c057ac86383589d9c90944bb457a365492e63cf3c73b4b0e764f1ab64c5ccb3", func := "sallyport/sallyportlaw2.InsnFields", spec := "insnFields", named := ["sallyport/insn.groups"], apart := false, laid := [("sallyport/insn.groups", laid_sallyport_insn_groups)], narrowed := true }
def InsnFieldsUptoSaid : Prop := insnFieldsUptoRow.holds Tryd.pinned (OpenSpec.upto insnFieldsSpec)

/-- 'sallyportlaw2.InsnReads', WHERE WHAT IT READS IS OF BULK AT MOST 1048576: true; the input reads as it did. -/
def insnReadsUptoRow : OpenClaim := { program := "ytgkcmfbkloeohaadoor", sum := "1c057ac86383589d9c90944bb457a365492e63cf3c73b4b0e764f1ab64c5ccb3", func := "sallyport/sallyportlaw2.InsnReads", spec := "insnReads", named := ["sallyport/insn.groups"], apart := false, laid := [("sallyport/insn.groups", laid_sallyport_insn_groups)], narrowed := true }
def InsnReadsUptoSaid : Prop := insnReadsUptoRow.holds Tryd.pinned (OpenSpec.upto insnReadsSpec)

/-- 'sallyportlaw2.InsnClasses', WHERE WHAT IT READS IS OF BULK AT MOST 1048576: true; the input reads as it did. -/
def insnClassesUptoRow : OpenClaim := { program := "ytgkcmfbkloeohaadoor", sum := "1c057ac86383589d9c90944bb457a365492e63cf3c73b4b0e764f1ab64c5ccb3", func := "sallyport/sallyportlaw2.InsnClasses", spec := "insnClasses", named := ["sallyport/insn.groups"], apart := false, laid := [("sallyport/insn.groups", laid_sallyport_insn_groups)], narrowed := true }
def InsnClassesUptoSaid : Prop := insnClassesUptoRow.holds Tryd.pinned (OpenSpec.upto insnClassesSpec)

end Rows
end Go.Proofs.YtgkcmfbkloeohaaDoor
