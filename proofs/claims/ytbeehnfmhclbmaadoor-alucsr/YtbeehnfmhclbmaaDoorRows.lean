/-
  NARROWER THAN 'FOR EVERY INPUT', by the rows' own cells (each row's printed sentence says how): AluTells: laid · AluBack: laid · AluOrder: laid · AluHalves: laid · AluCsr: laid · AluSteps: laid.
  DERIVED. THE GIVEN ROWS OF THIS SEAT. 6 by the template 'for every input the law returns true; each argument reads behind the call as it read before'; 0 by the template 'total and deterministic' (their statements: YtbeehnfmhclbmaaDoorTotals.lean).
  GIVEN WITH THE SEED: the statements are not yours to turn. If you find one false, say at which input.
  Laid BY PROGRAM, IN A SANDBOX (cutbox-rows.mjs): the forced cells as the released guide's own fill.sh prints them over the translation fd3b0e43ab3fde3a… (all of the seat's roots in one cut). By AI agents, Wed Nov 11 2026. No macro, syntax, notation, axiom, sorry.
-/
import Derived.Test.YtbeehnfmhclbmaaDoorChecked
import GoSem.Claim
import GoSem.ClaimJoined
import GoSem.ClaimMapViews
import Derived.JoinedTies
import Derived.KernelRfl
namespace Go.Proofs.YtbeehnfmhclbmaaDoor
/- THE CELL 'sum', in the pinned program and in every row, IS THE sha256 OF THE DUMP (.gsa) THAT YtbeehnfmhclbmaaDoorProg.lean LOADS. Nothing in Lean hashes anything: it is a label: what it is worth is what the hold of that sum in a sandbox is worth. -/
noncomputable def Tryd.pinned : Pinned := { name := "ytbeehnfmhclbmaadoor", sum := "fd3b0e43ab3fde3ab0170012e52fa3e2432fd85f9efe48f3ae958e2f53a8fa98", checked := Tryd.checked }
namespace Rows
def none {H : Type} : Left H := { results := [], args := [] }

/- WHAT THE LISTED PACKAGE-LEVEL VARIABLES READ AS WHEN THE CALL BEGINS. Each datum BY PROGRAM (the guide's laid-datum.mjs) off the statement by which the dump's own 'gosem.cut.vars' lays the variable. In a bare row this is a premise. The card (YtbeehnfmhclbmaaDoorCards.lean) ties it to the program's text. -/
def laid_sallyport_insn_groups {H : Type} : DataW H := .agg [.agg [.lit (.int .i64 1), .lit (.int .i64 2), .agg [.lit (.int .i64 1), .lit (.int .i64 1), .lit (.int .i64 (-2147483648)), .lit (.int .i64 2147479552), .lit (.int .i64 4096)]], .agg [.lit (.int .i64 3), .lit (.int .i64 3), .agg [.lit (.int .i64 1), .lit (.int .i64 1), .lit (.int .i64 (-1048576)), .lit (.int .i64 1048574), .lit (.int .i64 2)]], .agg [.lit (.int .i64 4), .lit (.int .i64 4), .agg [.lit (.int .i64 1), .lit (.int .i64 3), .lit (.int .i64 (-2048)), .lit (.int .i64 2047), .lit (.int .i64 1)]], .agg [.lit (.int .i64 5), .lit (.int .i64 10), .agg [.lit (.int .i64 2), .lit (.int .i64 6), .lit (.int .i64 (-4096)), .lit (.int .i64 4094), .lit (.int .i64 2)]], .agg [.lit (.int .i64 11), .lit (.int .i64 17), .agg [.lit (.int .i64 3), .lit (.int .i64 3), .lit (.int .i64 (-2048)), .lit (.int .i64 2047), .lit (.int .i64 1)]], .agg [.lit (.int .i64 18), .lit (.int .i64 21), .agg [.lit (.int .i64 4), .lit (.int .i64 6), .lit (.int .i64 (-2048)), .lit (.int .i64 2047), .lit (.int .i64 1)]], .agg [.lit (.int .i64 22), .lit (.int .i64 27), .agg [.lit (.int .i64 5), .lit (.int .i64 3), .lit (.int .i64 (-2048)), .lit (.int .i64 2047), .lit (.int .i64 1)]], .agg [.lit (.int .i64 28), .lit (.int .i64 30), .agg [.lit (.int .i64 5), .lit (.int .i64 3), .lit (.int .i64 0), .lit (.int .i64 63), .lit (.int .i64 1)]], .agg [.lit (.int .i64 31), .lit (.int .i64 31), .agg [.lit (.int .i64 5), .lit (.int .i64 3), .lit (.int .i64 (-2048)), .lit (.int .i64 2047), .lit (.int .i64 1)]], .agg [.lit (.int .i64 32), .lit (.int .i64 34), .agg [.lit (.int .i64 5), .lit (.int .i64 3), .lit (.int .i64 0), .lit (.int .i64 31), .lit (.int .i64 1)]], .agg [.lit (.int .i64 35), .lit (.int .i64 49), .agg [.lit (.int .i64 6), .lit (.int .i64 7), .lit (.int .i64 0), .lit (.int .i64 0), .lit (.int .i64 1)]], .agg [.lit (.int .i64 50), .lit (.int .i64 51), .agg [.lit (.int .i64 7), .lit (.int .i64 0), .lit (.int .i64 0), .lit (.int .i64 0), .lit (.int .i64 1)]], .agg [.lit (.int .i64 52), .lit (.int .i64 53), .agg [.lit (.int .i64 8), .lit (.int .i64 0), .lit (.int .i64 0), .lit (.int .i64 0), .lit (.int .i64 1)]], .agg [.lit (.int .i64 54), .lit (.int .i64 56), .agg [.lit (.int .i64 9), .lit (.int .i64 11), .lit (.int .i64 0), .lit (.int .i64 0), .lit (.int .i64 1)]], .agg [.lit (.int .i64 57), .lit (.int .i64 59), .agg [.lit (.int .i64 9), .lit (.int .i64 9), .lit (.int .i64 0), .lit (.int .i64 31), .lit (.int .i64 1)]], .agg [.lit (.int .i64 60), .lit (.int .i64 62), .agg [.lit (.int .i64 10), .lit (.int .i64 0), .lit (.int .i64 0), .lit (.int .i64 0), .lit (.int .i64 1)]], .agg [.lit (.int .i64 63), .lit (.int .i64 65), .agg [.lit (.int .i64 11), .lit (.int .i64 6), .lit (.int .i64 0), .lit (.int .i64 0), .lit (.int .i64 1)]], .agg [.lit (.int .i64 66), .lit (.int .i64 68), .agg [.lit (.int .i64 12), .lit (.int .i64 3), .lit (.int .i64 0), .lit (.int .i64 0), .lit (.int .i64 1)]], .agg [.lit (.int .i64 69), .lit (.int .i64 69), .agg [.lit (.int .i64 12), .lit (.int .i64 6), .lit (.int .i64 0), .lit (.int .i64 0), .lit (.int .i64 1)]]]
def laid_sallyport_alu_deeds {H : Type} : DataW H := .agg [.lit (.int .u8 0), .lit (.int .u8 0), .lit (.int .u8 0), .lit (.int .u8 0), .lit (.int .u8 0), .lit (.int .u8 0), .lit (.int .u8 0), .lit (.int .u8 0), .lit (.int .u8 0), .lit (.int .u8 0), .lit (.int .u8 0), .lit (.int .u8 0), .lit (.int .u8 0), .lit (.int .u8 0), .lit (.int .u8 0), .lit (.int .u8 0), .lit (.int .u8 0), .lit (.int .u8 0), .lit (.int .u8 0), .lit (.int .u8 0), .lit (.int .u8 0), .lit (.int .u8 0), .lit (.int .u8 1), .lit (.int .u8 4), .lit (.int .u8 3), .lit (.int .u8 5), .lit (.int .u8 6), .lit (.int .u8 7), .lit (.int .u8 8), .lit (.int .u8 9), .lit (.int .u8 10), .lit (.int .u8 129), .lit (.int .u8 136), .lit (.int .u8 137), .lit (.int .u8 138), .lit (.int .u8 1), .lit (.int .u8 2), .lit (.int .u8 8), .lit (.int .u8 4), .lit (.int .u8 3), .lit (.int .u8 5), .lit (.int .u8 9), .lit (.int .u8 10), .lit (.int .u8 6), .lit (.int .u8 7), .lit (.int .u8 129), .lit (.int .u8 130), .lit (.int .u8 136), .lit (.int .u8 137), .lit (.int .u8 138), .lit (.int .u8 0), .lit (.int .u8 0), .lit (.int .u8 0), .lit (.int .u8 0), .lit (.int .u8 0), .lit (.int .u8 0), .lit (.int .u8 0), .lit (.int .u8 0), .lit (.int .u8 0), .lit (.int .u8 0), .lit (.int .u8 0), .lit (.int .u8 0), .lit (.int .u8 0), .lit (.int .u8 0), .lit (.int .u8 0), .lit (.int .u8 0), .lit (.int .u8 0), .lit (.int .u8 0), .lit (.int .u8 0), .lit (.int .u8 0)]

/-- 'sallyportlaw5.AluTells': WHATEVER THE INPUT: true; the input reads as it did. -/
def aluTellsSpec : ChangeSpec := { name := "aluTells", fn := fun _ => fun
  | [d1, d2, d3] => { results := [.lit (.bool true)], args := [d1, d2, d3] }
  | _ => none }
def aluTellsRow : OpenClaim := { program := "ytbeehnfmhclbmaadoor", sum := "fd3b0e43ab3fde3ab0170012e52fa3e2432fd85f9efe48f3ae958e2f53a8fa98", func := "sallyport/sallyportlaw5.AluTells", spec := "aluTells", named := ["sallyport/alu.deeds", "sallyport/insn.groups"], apart := false, laid := [("sallyport/insn.groups", laid_sallyport_insn_groups), ("sallyport/alu.deeds", laid_sallyport_alu_deeds)] }
def AluTellsSaid : Prop := aluTellsRow.holds Tryd.pinned (OpenSpec.ofChange aluTellsSpec)

/-- ITS FALSE NEIGHBOUR: 'it returns false'. Refute it at one input. -/
def aluTellsWrong : ChangeSpec := { name := "aluTells", fn := fun _ => fun
  | [d1, d2, d3] => { results := [.lit (.bool false)], args := [d1, d2, d3] }
  | _ => none }
def AluTellsWrongFalsely : Prop := aluTellsRow.holds Tryd.pinned (OpenSpec.ofChange aluTellsWrong)

/-- 'sallyportlaw5.AluBack': WHATEVER THE INPUT: true; the input reads as it did. -/
def aluBackSpec : ChangeSpec := { name := "aluBack", fn := fun _ => fun
  | [d1, d2] => { results := [.lit (.bool true)], args := [d1, d2] }
  | _ => none }
def aluBackRow : OpenClaim := { program := "ytbeehnfmhclbmaadoor", sum := "fd3b0e43ab3fde3ab0170012e52fa3e2432fd85f9efe48f3ae958e2f53a8fa98", func := "sallyport/sallyportlaw5.AluBack", spec := "aluBack", named := ["sallyport/alu.deeds", "sallyport/insn.groups"], apart := false, laid := [("sallyport/insn.groups", laid_sallyport_insn_groups), ("sallyport/alu.deeds", laid_sallyport_alu_deeds)] }
def AluBackSaid : Prop := aluBackRow.holds Tryd.pinned (OpenSpec.ofChange aluBackSpec)

/-- ITS FALSE NEIGHBOUR: 'it returns false'. Refute it at one input. -/
def aluBackWrong : ChangeSpec := { name := "aluBack", fn := fun _ => fun
  | [d1, d2] => { results := [.lit (.bool false)], args := [d1, d2] }
  | _ => none }
def AluBackWrongFalsely : Prop := aluBackRow.holds Tryd.pinned (OpenSpec.ofChange aluBackWrong)

/-- 'sallyportlaw5.AluOrder': WHATEVER THE INPUT: true; the input reads as it did. -/
def aluOrderSpec : ChangeSpec := { name := "aluOrder", fn := fun _ => fun
  | [d1, d2] => { results := [.lit (.bool true)], args := [d1, d2] }
  | _ => none }
def aluOrderRow : OpenClaim := { program := "ytbeehnfmhclbmaadoor", sum := "fd3b0e43ab3fde3ab0170012e52fa3e2432fd85f9efe48f3ae958e2f53a8fa98", func := "sallyport/sallyportlaw5.AluOrder", spec := "aluOrder", named := ["sallyport/alu.deeds", "sallyport/insn.groups"], apart := false, laid := [("sallyport/insn.groups", laid_sallyport_insn_groups), ("sallyport/alu.deeds", laid_sallyport_alu_deeds)] }
def AluOrderSaid : Prop := aluOrderRow.holds Tryd.pinned (OpenSpec.ofChange aluOrderSpec)

/-- ITS FALSE NEIGHBOUR: 'it returns false'. Refute it at one input. -/
def aluOrderWrong : ChangeSpec := { name := "aluOrder", fn := fun _ => fun
  | [d1, d2] => { results := [.lit (.bool false)], args := [d1, d2] }
  | _ => none }
def AluOrderWrongFalsely : Prop := aluOrderRow.holds Tryd.pinned (OpenSpec.ofChange aluOrderWrong)

/-- 'sallyportlaw5.AluHalves': WHATEVER THE INPUT: true; the input reads as it did. -/
def aluHalvesSpec : ChangeSpec := { name := "aluHalves", fn := fun _ => fun
  | [d1, d2] => { results := [.lit (.bool true)], args := [d1, d2] }
  | _ => none }
def aluHalvesRow : OpenClaim := { program := "ytbeehnfmhclbmaadoor", sum := "fd3b0e43ab3fde3ab0170012e52fa3e2432fd85f9efe48f3ae958e2f53a8fa98", func := "sallyport/sallyportlaw5.AluHalves", spec := "aluHalves", named := ["sallyport/alu.deeds", "sallyport/insn.groups"], apart := false, laid := [("sallyport/insn.groups", laid_sallyport_insn_groups), ("sallyport/alu.deeds", laid_sallyport_alu_deeds)] }
def AluHalvesSaid : Prop := aluHalvesRow.holds Tryd.pinned (OpenSpec.ofChange aluHalvesSpec)

/-- ITS FALSE NEIGHBOUR: 'it returns false'. Refute it at one input. -/
def aluHalvesWrong : ChangeSpec := { name := "aluHalves", fn := fun _ => fun
  | [d1, d2] => { results := [.lit (.bool false)], args := [d1, d2] }
  | _ => none }
def AluHalvesWrongFalsely : Prop := aluHalvesRow.holds Tryd.pinned (OpenSpec.ofChange aluHalvesWrong)

/-- 'sallyportlaw5.AluCsr': WHATEVER THE INPUT: true; the input reads as it did. -/
def aluCsrSpec : ChangeSpec := { name := "aluCsr", fn := fun _ => fun
  | [d1, d2] => { results := [.lit (.bool true)], args := [d1, d2] }
  | _ => none }
def aluCsrRow : OpenClaim := { program := "ytbeehnfmhclbmaadoor", sum := "fd3b0e43ab3fde3ab0170012e52fa3e2432fd85f9efe48f3ae958e2f53a8fa98", func := "sallyport/sallyportlaw5.AluCsr", spec := "aluCsr", named := ["sallyport/alu.deeds", "sallyport/insn.groups"], apart := false, laid := [("sallyport/insn.groups", laid_sallyport_insn_groups), ("sallyport/alu.deeds", laid_sallyport_alu_deeds)] }
def AluCsrSaid : Prop := aluCsrRow.holds Tryd.pinned (OpenSpec.ofChange aluCsrSpec)

/-- ITS FALSE NEIGHBOUR: 'it returns false'. Refute it at one input. -/
def aluCsrWrong : ChangeSpec := { name := "aluCsr", fn := fun _ => fun
  | [d1, d2] => { results := [.lit (.bool false)], args := [d1, d2] }
  | _ => none }
def AluCsrWrongFalsely : Prop := aluCsrRow.holds Tryd.pinned (OpenSpec.ofChange aluCsrWrong)

/-- 'sallyportlaw5.AluSteps': WHATEVER THE INPUT: true; the input reads as it did. -/
def aluStepsSpec : ChangeSpec := { name := "aluSteps", fn := fun _ => fun
  | [d1, d2, d3] => { results := [.lit (.bool true)], args := [d1, d2, d3] }
  | _ => none }
def aluStepsRow : OpenClaim := { program := "ytbeehnfmhclbmaadoor", sum := "fd3b0e43ab3fde3ab0170012e52fa3e2432fd85f9efe48f3ae958e2f53a8fa98", func := "sallyport/sallyportlaw5.AluSteps", spec := "aluSteps", named := ["sallyport/alu.deeds", "sallyport/insn.groups"], apart := false, laid := [("sallyport/insn.groups", laid_sallyport_insn_groups), ("sallyport/alu.deeds", laid_sallyport_alu_deeds)] }
def AluStepsSaid : Prop := aluStepsRow.holds Tryd.pinned (OpenSpec.ofChange aluStepsSpec)

/-- ITS FALSE NEIGHBOUR: 'it returns false'. Refute it at one input. -/
def aluStepsWrong : ChangeSpec := { name := "aluSteps", fn := fun _ => fun
  | [d1, d2, d3] => { results := [.lit (.bool false)], args := [d1, d2, d3] }
  | _ => none }
def AluStepsWrongFalsely : Prop := aluStepsRow.holds Tryd.pinned (OpenSpec.ofChange aluStepsWrong)

/- THE SECOND FORM. 'bulk': how many values and letters a reading holds, each counted each time it is reached (what is shared counts as often as it is met; a slice's spare places count too). A statement '..UptoSaid' is the law's where the arguments, and the package variables that the reading takes, are together of bulk at most 1048576: NARROWER than '..Said'. Prove '..Said' where nothing that the law and all that it calls make is longer than what came in: it says more and counts as full. Else prove '..UptoSaid'. A law counts once. -/
mutual
def uptoBulk {H : Type} : DataW H → Nat
  | .lit (.string bytes) => bytes.length + 1
  | .lit _ => 1
  | .nil => 1
  | .ptr d => uptoBulk d + 1
  | .slice elems spare => uptoBulkAll elems + uptoBulkAll spare + 1
  | .agg parts => uptoBulkAll parts + 1
  | .iface _ d => uptoBulk d + 1
  | .map entries => uptoBulkEntries entries + 1
  | .held _ => 1
def uptoBulkAll {H : Type} : List (DataW H) → Nat
  | [] => 0
  | d :: r => uptoBulk d + uptoBulkAll r
def uptoBulkEntries {H : Type} : List (Lit × DataW H) → Nat
  | [] => 0
  | x :: r => uptoBulkEntry x + uptoBulkEntries r
def uptoBulkEntry {H : Type} : Lit × DataW H → Nat
  | (.string bytes, d) => bytes.length + uptoBulk d + 1
  | (_, d) => uptoBulk d + 1
 end
def uptoSmall : (H : Type) → List (DataW H) → Bool := fun _ ds => decide (uptoBulkAll ds ≤ 1048576)
def OpenSpec.upto (s : _root_.Go.ChangeSpec) : _root_.Go.OpenSpec := { _root_.Go.OpenSpec.ofChange s with cond := some uptoSmall }

/-- 'sallyportlaw5.AluTells', WHERE WHAT IT READS IS OF BULK AT MOST 1048576: true; the input reads as it did. -/
def aluTellsUptoRow : OpenClaim := { program := "ytbeehnfmhclbmaadoor", sum := "fd3b0e43ab3fde3ab0170012e52fa3e2432fd85f9efe48f3ae958e2f53a8fa98", func := "sallyport/sallyportlaw5.AluTells", spec := "aluTells", named := ["sallyport/alu.deeds", "sallyport/insn.groups"], apart := false, laid := [("sallyport/insn.groups", laid_sallyport_insn_groups), ("sallyport/alu.deeds", laid_sallyport_alu_deeds)], narrowed := true }
def AluTellsUptoSaid : Prop := aluTellsUptoRow.holds Tryd.pinned (OpenSpec.upto aluTellsSpec)

/-- 'sallyportlaw5.AluBack', WHERE WHAT IT READS IS OF BULK AT MOST 1048576: true; the input reads as it did. -/
def aluBackUptoRow : OpenClaim := { program := "ytbeehnfmhclbmaadoor", sum := "fd3b0e43ab3fde3ab0170012e52fa3e2432fd85f9efe48f3ae958e2f53a8fa98", func := "sallyport/sallyportlaw5.AluBack", spec := "aluBack", named := ["sallyport/alu.deeds", "sallyport/insn.groups"], apart := false, laid := [("sallyport/insn.groups", laid_sallyport_insn_groups), ("sallyport/alu.deeds", laid_sallyport_alu_deeds)], narrowed := true }
def AluBackUptoSaid : Prop := aluBackUptoRow.holds Tryd.pinned (OpenSpec.upto aluBackSpec)

/-- 'sallyportlaw5.AluOrder', WHERE WHAT IT READS IS OF BULK AT MOST 1048576: true; the input reads as it did. -/
def aluOrderUptoRow : OpenClaim := { program := "ytbeehnfmhclbmaadoor", sum := "fd3b0e43ab3fde3ab0170012e52fa3e2432fd85f9efe48f3ae958e2f53a8fa98", func := "sallyport/sallyportlaw5.AluOrder", spec := "aluOrder", named := ["sallyport/alu.deeds", "sallyport/insn.groups"], apart := false, laid := [("sallyport/insn.groups", laid_sallyport_insn_groups), ("sallyport/alu.deeds", laid_sallyport_alu_deeds)], narrowed := true }
def AluOrderUptoSaid : Prop := aluOrderUptoRow.holds Tryd.pinned (OpenSpec.upto aluOrderSpec)

/-- 'sallyportlaw5.AluHalves', WHERE WHAT IT READS IS OF BULK AT MOST 1048576: true; the input reads as it did. -/
def aluHalvesUptoRow : OpenClaim := { program := "ytbeehnfmhclbmaadoor", sum := "fd3b0e43ab3fde3ab0170012e52fa3e2432fd85f9efe48f3ae958e2f53a8fa98", func := "sallyport/sallyportlaw5.AluHalves", spec := "aluHalves", named := ["sallyport/alu.deeds", "sallyport/insn.groups"], apart := false, laid := [("sallyport/insn.groups", laid_sallyport_insn_groups), ("sallyport/alu.deeds", laid_sallyport_alu_deeds)], narrowed := true }
def AluHalvesUptoSaid : Prop := aluHalvesUptoRow.holds Tryd.pinned (OpenSpec.upto aluHalvesSpec)

/-- 'sallyportlaw5.AluCsr', WHERE WHAT IT READS IS OF BULK AT MOST 1048576: true; the input reads as it did. -/
def aluCsrUptoRow : OpenClaim := { program := "ytbeehnfmhclbmaadoor", sum := "fd3b0e43ab3fde3ab0170012e52fa3e2432fd85f9efe48f3ae958e2f53a8fa98", func := "sallyport/sallyportlaw5.AluCsr", spec := "aluCsr", named := ["sallyport/alu.deeds", "sallyport/insn.groups"], apart := false, laid := [("sallyport/insn.groups", laid_sallyport_insn_groups), ("sallyport/alu.deeds", laid_sallyport_alu_deeds)], narrowed := true }
def AluCsrUptoSaid : Prop := aluCsrUptoRow.holds Tryd.pinned (OpenSpec.upto aluCsrSpec)

/-- 'sallyportlaw5.AluSteps', WHERE WHAT IT READS IS OF BULK AT MOST 1048576: true; the input reads as it did. -/
def aluStepsUptoRow : OpenClaim := { program := "ytbeehnfmhclbmaadoor", sum := "fd3b0e43ab3fde3ab0170012e52fa3e2432fd85f9efe48f3ae958e2f53a8fa98", func := "sallyport/sallyportlaw5.AluSteps", spec := "aluSteps", named := ["sallyport/alu.deeds", "sallyport/insn.groups"], apart := false, laid := [("sallyport/insn.groups", laid_sallyport_insn_groups), ("sallyport/alu.deeds", laid_sallyport_alu_deeds)], narrowed := true }
def AluStepsUptoSaid : Prop := aluStepsUptoRow.holds Tryd.pinned (OpenSpec.upto aluStepsSpec)

end Rows
end Go.Proofs.YtbeehnfmhclbmaaDoor
