/-
  NARROWER THAN 'FOR EVERY INPUT', by the rows' own cells (each row's printed sentence says how): LegalTells: laid · LegalMore: laid · LegalGuest: laid · LegalPlain: laid · LegalReads: laid.
  DERIVED. THE GIVEN ROWS OF THIS SEAT. 5 by the template 'for every input the law returns true; each argument reads behind the call as it read before'; 0 by the template 'total and deterministic' (their statements: YthmanpfooegbcaaDoorTotals.lean).
  GIVEN WITH THE SEED: the statements are not yours to turn. If you find one false, say at which input.
  Laid BY PROGRAM, IN A SANDBOX (cutbox-rows.mjs): the forced cells as the released guide's own fill.sh prints them over the translation e5c4988b3dfd2aa7… (all of the seat's roots in one cut). By AI agents, Wed Nov 11 2026. No macro, syntax, notation, axiom, sorry.
-/
import Derived.Test.YthmanpfooegbcaaDoorChecked
import GoSem.Claim
import GoSem.ClaimJoined
import GoSem.ClaimMapViews
import Derived.JoinedTies
import Derived.KernelRfl
namespace Go.Proofs.YthmanpfooegbcaaDoor
/- THE CELL 'sum', in the pinned program and in every row, IS THE sha256 OF THE DUMP (.gsa) THAT YthmanpfooegbcaaDoorProg.lean LOADS. Nothing in Lean hashes anything: it is a label: what it is worth is what the hold of that sum in a sandbox is worth. -/
noncomputable def Tryd.pinned : Pinned := { name := "ythmanpfooegbcaadoor", sum := "e5c4988b3dfd2aa717ac704d7e7084f1b03660e0037dce1232fafdd5f526409f", checked := Tryd.checked }
namespace Rows
def none {H : Type} : Left H := { results := [], args := [] }

/- WHAT THE LISTED PACKAGE-LEVEL VARIABLES READ AS WHEN THE CALL BEGINS. Each datum BY PROGRAM (the guide's laid-datum.mjs) off the statement by which the dump's own 'gosem.cut.vars' lays the variable. In a bare row this is a premise. The card (YthmanpfooegbcaaDoorCards.lean) ties it to the program's text. -/
def laid_sallyport_csr_registers {H : Type} : DataW H := .agg [.agg [.lit (.int .i64 768), .lit (.int .u64 824641853866)], .agg [.lit (.int .i64 770), .lit (.int .u64 15775231)], .agg [.lit (.int .i64 771), .lit (.int .u64 544)], .agg [.lit (.int .i64 772), .lit (.int .u64 1632)], .agg [.lit (.int .i64 773), .lit (.int .u64 18446744073709551612)], .agg [.lit (.int .i64 832), .lit (.int .u64 18446744073709551615)], .agg [.lit (.int .i64 833), .lit (.int .u64 18446744073709551612)], .agg [.lit (.int .i64 834), .lit (.int .u64 18446744073709551615)], .agg [.lit (.int .i64 835), .lit (.int .u64 18446744073709551615)], .agg [.lit (.int .i64 843), .lit (.int .u64 18446744073709551615)], .agg [.lit (.int .i64 261), .lit (.int .u64 18446744073709551612)], .agg [.lit (.int .i64 320), .lit (.int .u64 18446744073709551615)], .agg [.lit (.int .i64 321), .lit (.int .u64 18446744073709551612)], .agg [.lit (.int .i64 322), .lit (.int .u64 18446744073709551615)], .agg [.lit (.int .i64 323), .lit (.int .u64 18446744073709551615)], .agg [.lit (.int .i64 384), .lit (.int .u64 9223372036871487743)], .agg [.lit (.int .i64 1536), .lit (.int .u64 7340992)], .agg [.lit (.int .i64 1538), .lit (.int .u64 45567)], .agg [.lit (.int .i64 1539), .lit (.int .u64 1088)], .agg [.lit (.int .i64 1605), .lit (.int .u64 1088)], .agg [.lit (.int .i64 1603), .lit (.int .u64 18446744073709551615)], .agg [.lit (.int .i64 1664), .lit (.int .u64 9223372036871487743)], .agg [.lit (.int .i64 512), .lit (.int .u64 786722)], .agg [.lit (.int .i64 517), .lit (.int .u64 18446744073709551612)], .agg [.lit (.int .i64 576), .lit (.int .u64 18446744073709551615)], .agg [.lit (.int .i64 577), .lit (.int .u64 18446744073709551612)], .agg [.lit (.int .i64 578), .lit (.int .u64 18446744073709551615)], .agg [.lit (.int .i64 579), .lit (.int .u64 18446744073709551615)], .agg [.lit (.int .i64 640), .lit (.int .u64 9223372036871487743)]]
def laid_sallyport_csr_views {H : Type} : DataW H := .agg [.agg [.lit (.int .i64 256), .lit (.int .i64 0), .lit (.int .u64 786722), .lit (.int .u8 0)], .agg [.lit (.int .i64 260), .lit (.int .i64 3), .lit (.int .u64 544), .lit (.int .u8 0)], .agg [.lit (.int .i64 516), .lit (.int .i64 3), .lit (.int .u64 1088), .lit (.int .u8 1)]]
def laid_sallyport_insn_groups {H : Type} : DataW H := .agg [.agg [.lit (.int .i64 1), .lit (.int .i64 2), .agg [.lit (.int .i64 1), .lit (.int .i64 1), .lit (.int .i64 (-2147483648)), .lit (.int .i64 2147479552), .lit (.int .i64 4096)]], .agg [.lit (.int .i64 3), .lit (.int .i64 3), .agg [.lit (.int .i64 1), .lit (.int .i64 1), .lit (.int .i64 (-1048576)), .lit (.int .i64 1048574), .lit (.int .i64 2)]], .agg [.lit (.int .i64 4), .lit (.int .i64 4), .agg [.lit (.int .i64 1), .lit (.int .i64 3), .lit (.int .i64 (-2048)), .lit (.int .i64 2047), .lit (.int .i64 1)]], .agg [.lit (.int .i64 5), .lit (.int .i64 10), .agg [.lit (.int .i64 2), .lit (.int .i64 6), .lit (.int .i64 (-4096)), .lit (.int .i64 4094), .lit (.int .i64 2)]], .agg [.lit (.int .i64 11), .lit (.int .i64 17), .agg [.lit (.int .i64 3), .lit (.int .i64 3), .lit (.int .i64 (-2048)), .lit (.int .i64 2047), .lit (.int .i64 1)]], .agg [.lit (.int .i64 18), .lit (.int .i64 21), .agg [.lit (.int .i64 4), .lit (.int .i64 6), .lit (.int .i64 (-2048)), .lit (.int .i64 2047), .lit (.int .i64 1)]], .agg [.lit (.int .i64 22), .lit (.int .i64 27), .agg [.lit (.int .i64 5), .lit (.int .i64 3), .lit (.int .i64 (-2048)), .lit (.int .i64 2047), .lit (.int .i64 1)]], .agg [.lit (.int .i64 28), .lit (.int .i64 30), .agg [.lit (.int .i64 5), .lit (.int .i64 3), .lit (.int .i64 0), .lit (.int .i64 63), .lit (.int .i64 1)]], .agg [.lit (.int .i64 31), .lit (.int .i64 31), .agg [.lit (.int .i64 5), .lit (.int .i64 3), .lit (.int .i64 (-2048)), .lit (.int .i64 2047), .lit (.int .i64 1)]], .agg [.lit (.int .i64 32), .lit (.int .i64 34), .agg [.lit (.int .i64 5), .lit (.int .i64 3), .lit (.int .i64 0), .lit (.int .i64 31), .lit (.int .i64 1)]], .agg [.lit (.int .i64 35), .lit (.int .i64 49), .agg [.lit (.int .i64 6), .lit (.int .i64 7), .lit (.int .i64 0), .lit (.int .i64 0), .lit (.int .i64 1)]], .agg [.lit (.int .i64 50), .lit (.int .i64 51), .agg [.lit (.int .i64 7), .lit (.int .i64 0), .lit (.int .i64 0), .lit (.int .i64 0), .lit (.int .i64 1)]], .agg [.lit (.int .i64 52), .lit (.int .i64 53), .agg [.lit (.int .i64 8), .lit (.int .i64 0), .lit (.int .i64 0), .lit (.int .i64 0), .lit (.int .i64 1)]], .agg [.lit (.int .i64 54), .lit (.int .i64 56), .agg [.lit (.int .i64 9), .lit (.int .i64 11), .lit (.int .i64 0), .lit (.int .i64 0), .lit (.int .i64 1)]], .agg [.lit (.int .i64 57), .lit (.int .i64 59), .agg [.lit (.int .i64 9), .lit (.int .i64 9), .lit (.int .i64 0), .lit (.int .i64 31), .lit (.int .i64 1)]], .agg [.lit (.int .i64 60), .lit (.int .i64 62), .agg [.lit (.int .i64 10), .lit (.int .i64 0), .lit (.int .i64 0), .lit (.int .i64 0), .lit (.int .i64 1)]], .agg [.lit (.int .i64 63), .lit (.int .i64 65), .agg [.lit (.int .i64 11), .lit (.int .i64 6), .lit (.int .i64 0), .lit (.int .i64 0), .lit (.int .i64 1)]], .agg [.lit (.int .i64 66), .lit (.int .i64 68), .agg [.lit (.int .i64 12), .lit (.int .i64 3), .lit (.int .i64 0), .lit (.int .i64 0), .lit (.int .i64 1)]], .agg [.lit (.int .i64 69), .lit (.int .i64 69), .agg [.lit (.int .i64 12), .lit (.int .i64 6), .lit (.int .i64 0), .lit (.int .i64 0), .lit (.int .i64 1)]]]
def laid_sallyport_legal_causes {H : Type} : DataW H := .agg [.agg [.lit (.int .u64 0), .lit (.int .u64 0), .lit (.int .u64 0), .lit (.int .u64 0), .lit (.int .u64 0), .lit (.int .u64 0)], .agg [.lit (.int .u64 2), .lit (.int .u64 0), .lit (.int .u64 0), .lit (.int .u64 0), .lit (.int .u64 22), .lit (.int .u64 0)], .agg [.lit (.int .u64 2), .lit (.int .u64 0), .lit (.int .u64 0), .lit (.int .u64 0), .lit (.int .u64 22), .lit (.int .u64 22)], .agg [.lit (.int .u64 2), .lit (.int .u64 2), .lit (.int .u64 0), .lit (.int .u64 0), .lit (.int .u64 2), .lit (.int .u64 2)]]
def laid_sallyport_legal_numbers {H : Type} : DataW H := .agg [.agg [.lit (.int .i64 384), .agg [.lit (.int .i64 1), .lit (.int .u64 1048576)]], .agg [.lit (.int .i64 3074), .agg [.lit (.int .i64 2), .lit (.int .u64 0)]]]
def laid_sallyport_legal_operations {H : Type} : DataW H := .agg [.agg [.lit (.int .i64 60), .lit (.int .i64 60), .agg [.lit (.int .i64 3), .lit (.int .u64 0)]], .agg [.lit (.int .i64 61), .lit (.int .i64 61), .agg [.lit (.int .i64 1), .lit (.int .u64 4194304)]], .agg [.lit (.int .i64 62), .lit (.int .i64 62), .agg [.lit (.int .i64 1), .lit (.int .u64 2097152)]], .agg [.lit (.int .i64 63), .lit (.int .i64 63), .agg [.lit (.int .i64 1), .lit (.int .u64 1048576)]], .agg [.lit (.int .i64 64), .lit (.int .i64 64), .agg [.lit (.int .i64 2), .lit (.int .u64 0)]], .agg [.lit (.int .i64 65), .lit (.int .i64 65), .agg [.lit (.int .i64 2), .lit (.int .u64 1048576)]], .agg [.lit (.int .i64 66), .lit (.int .i64 69), .agg [.lit (.int .i64 2), .lit (.int .u64 0)]]]

/-- 'sallyportlaw9.LegalTells': WHATEVER THE INPUT: true; the input reads as it did. -/
def legalTellsSpec : ChangeSpec := { name := "legalTells", fn := fun _ => fun
  | [d1, d2, d3, d4] => { results := [.lit (.bool true)], args := [d1, d2, d3, d4] }
  | _ => none }
def legalTellsRow : OpenClaim := { program := "ythmanpfooegbcaadoor", sum := "e5c4988b3dfd2aa717ac704d7e7084f1b03660e0037dce1232fafdd5f526409f", func := "sallyport/sallyportlaw9.LegalTells", spec := "legalTells", named := ["sallyport/csr.registers", "sallyport/csr.views", "sallyport/legal.numbers", "sallyport/legal.causes", "sallyport/insn.groups", "sallyport/legal.operations"], apart := false, laid := [("sallyport/csr.registers", laid_sallyport_csr_registers), ("sallyport/csr.views", laid_sallyport_csr_views), ("sallyport/insn.groups", laid_sallyport_insn_groups), ("sallyport/legal.causes", laid_sallyport_legal_causes), ("sallyport/legal.numbers", laid_sallyport_legal_numbers), ("sallyport/legal.operations", laid_sallyport_legal_operations)] }
def LegalTellsSaid : Prop := legalTellsRow.holds Tryd.pinned (OpenSpec.ofChange legalTellsSpec)

/-- ITS FALSE NEIGHBOUR: 'it returns false'. Refute it at one input. -/
def legalTellsWrong : ChangeSpec := { name := "legalTells", fn := fun _ => fun
  | [d1, d2, d3, d4] => { results := [.lit (.bool false)], args := [d1, d2, d3, d4] }
  | _ => none }
def LegalTellsWrongFalsely : Prop := legalTellsRow.holds Tryd.pinned (OpenSpec.ofChange legalTellsWrong)

/-- 'sallyportlaw9.LegalMore': WHATEVER THE INPUT: true; the input reads as it did. -/
def legalMoreSpec : ChangeSpec := { name := "legalMore", fn := fun _ => fun
  | [d1, d2] => { results := [.lit (.bool true)], args := [d1, d2] }
  | _ => none }
def legalMoreRow : OpenClaim := { program := "ythmanpfooegbcaadoor", sum := "e5c4988b3dfd2aa717ac704d7e7084f1b03660e0037dce1232fafdd5f526409f", func := "sallyport/sallyportlaw9.LegalMore", spec := "legalMore", named := ["sallyport/csr.registers", "sallyport/csr.views", "sallyport/legal.numbers", "sallyport/legal.causes", "sallyport/insn.groups", "sallyport/legal.operations"], apart := false, laid := [("sallyport/csr.registers", laid_sallyport_csr_registers), ("sallyport/csr.views", laid_sallyport_csr_views), ("sallyport/insn.groups", laid_sallyport_insn_groups), ("sallyport/legal.causes", laid_sallyport_legal_causes), ("sallyport/legal.numbers", laid_sallyport_legal_numbers), ("sallyport/legal.operations", laid_sallyport_legal_operations)] }
def LegalMoreSaid : Prop := legalMoreRow.holds Tryd.pinned (OpenSpec.ofChange legalMoreSpec)

/-- ITS FALSE NEIGHBOUR: 'it returns false'. Refute it at one input. -/
def legalMoreWrong : ChangeSpec := { name := "legalMore", fn := fun _ => fun
  | [d1, d2] => { results := [.lit (.bool false)], args := [d1, d2] }
  | _ => none }
def LegalMoreWrongFalsely : Prop := legalMoreRow.holds Tryd.pinned (OpenSpec.ofChange legalMoreWrong)

/-- 'sallyportlaw9.LegalGuest': WHATEVER THE INPUT: true; the input reads as it did. -/
def legalGuestSpec : ChangeSpec := { name := "legalGuest", fn := fun _ => fun
  | [d1, d2, d3, d4] => { results := [.lit (.bool true)], args := [d1, d2, d3, d4] }
  | _ => none }
def legalGuestRow : OpenClaim := { program := "ythmanpfooegbcaadoor", sum := "e5c4988b3dfd2aa717ac704d7e7084f1b03660e0037dce1232fafdd5f526409f", func := "sallyport/sallyportlaw9.LegalGuest", spec := "legalGuest", named := ["sallyport/csr.registers", "sallyport/csr.views", "sallyport/legal.numbers", "sallyport/legal.causes", "sallyport/insn.groups", "sallyport/legal.operations"], apart := false, laid := [("sallyport/csr.registers", laid_sallyport_csr_registers), ("sallyport/csr.views", laid_sallyport_csr_views), ("sallyport/insn.groups", laid_sallyport_insn_groups), ("sallyport/legal.causes", laid_sallyport_legal_causes), ("sallyport/legal.numbers", laid_sallyport_legal_numbers), ("sallyport/legal.operations", laid_sallyport_legal_operations)] }
def LegalGuestSaid : Prop := legalGuestRow.holds Tryd.pinned (OpenSpec.ofChange legalGuestSpec)

/-- ITS FALSE NEIGHBOUR: 'it returns false'. Refute it at one input. -/
def legalGuestWrong : ChangeSpec := { name := "legalGuest", fn := fun _ => fun
  | [d1, d2, d3, d4] => { results := [.lit (.bool false)], args := [d1, d2, d3, d4] }
  | _ => none }
def LegalGuestWrongFalsely : Prop := legalGuestRow.holds Tryd.pinned (OpenSpec.ofChange legalGuestWrong)

/-- 'sallyportlaw9.LegalPlain': WHATEVER THE INPUT: true; the input reads as it did. -/
def legalPlainSpec : ChangeSpec := { name := "legalPlain", fn := fun _ => fun
  | [d1, d2] => { results := [.lit (.bool true)], args := [d1, d2] }
  | _ => none }
def legalPlainRow : OpenClaim := { program := "ythmanpfooegbcaadoor", sum := "e5c4988b3dfd2aa717ac704d7e7084f1b03660e0037dce1232fafdd5f526409f", func := "sallyport/sallyportlaw9.LegalPlain", spec := "legalPlain", named := ["sallyport/csr.registers", "sallyport/csr.views", "sallyport/legal.numbers", "sallyport/legal.causes", "sallyport/insn.groups", "sallyport/legal.operations"], apart := false, laid := [("sallyport/csr.registers", laid_sallyport_csr_registers), ("sallyport/csr.views", laid_sallyport_csr_views), ("sallyport/insn.groups", laid_sallyport_insn_groups), ("sallyport/legal.causes", laid_sallyport_legal_causes), ("sallyport/legal.numbers", laid_sallyport_legal_numbers), ("sallyport/legal.operations", laid_sallyport_legal_operations)] }
def LegalPlainSaid : Prop := legalPlainRow.holds Tryd.pinned (OpenSpec.ofChange legalPlainSpec)

/-- ITS FALSE NEIGHBOUR: 'it returns false'. Refute it at one input. -/
def legalPlainWrong : ChangeSpec := { name := "legalPlain", fn := fun _ => fun
  | [d1, d2] => { results := [.lit (.bool false)], args := [d1, d2] }
  | _ => none }
def LegalPlainWrongFalsely : Prop := legalPlainRow.holds Tryd.pinned (OpenSpec.ofChange legalPlainWrong)

/-- 'sallyportlaw9.LegalReads': WHATEVER THE INPUT: true; the input reads as it did. -/
def legalReadsSpec : ChangeSpec := { name := "legalReads", fn := fun _ => fun
  | [d1, d2, d3, d4] => { results := [.lit (.bool true)], args := [d1, d2, d3, d4] }
  | _ => none }
def legalReadsRow : OpenClaim := { program := "ythmanpfooegbcaadoor", sum := "e5c4988b3dfd2aa717ac704d7e7084f1b03660e0037dce1232fafdd5f526409f", func := "sallyport/sallyportlaw9.LegalReads", spec := "legalReads", named := ["sallyport/csr.registers", "sallyport/csr.views", "sallyport/legal.numbers", "sallyport/legal.causes", "sallyport/insn.groups", "sallyport/legal.operations"], apart := false, laid := [("sallyport/csr.registers", laid_sallyport_csr_registers), ("sallyport/csr.views", laid_sallyport_csr_views), ("sallyport/insn.groups", laid_sallyport_insn_groups), ("sallyport/legal.causes", laid_sallyport_legal_causes), ("sallyport/legal.numbers", laid_sallyport_legal_numbers), ("sallyport/legal.operations", laid_sallyport_legal_operations)] }
def LegalReadsSaid : Prop := legalReadsRow.holds Tryd.pinned (OpenSpec.ofChange legalReadsSpec)

/-- ITS FALSE NEIGHBOUR: 'it returns false'. Refute it at one input. -/
def legalReadsWrong : ChangeSpec := { name := "legalReads", fn := fun _ => fun
  | [d1, d2, d3, d4] => { results := [.lit (.bool false)], args := [d1, d2, d3, d4] }
  | _ => none }
def LegalReadsWrongFalsely : Prop := legalReadsRow.holds Tryd.pinned (OpenSpec.ofChange legalReadsWrong)

/- THE SECOND FORM. 'bulk': how many values and letters a reading holds, each counted each time it is reached (what is shared counts as often as it is met; a slice's spare places count too). A statement '..UptoSaid' is the law's where the arguments, and the package variables that the reading takes, are together of bulk at most 1048576: NARROWER than '..Said'. Prove '..Said' where nothing that the law and all that it calls make is longer than what came in: it says more and counts as full. Else prove '..UptoSaid'. A law counts once. -/
mutual
def uptoBulk {H : Type} : DataW H → Nat
  | .lit (.string bytes) => bytes.length + 1
  | .lit _ => 1
  | .nil => 1
  | .ptr d => uptoBulk d + 1
  | .slice elems spare => uptoBulkAll elems + uptoBulkAll spare + 1
  | .agg parts => uptoBulkAll parts + 1
  | .iface _ d => uptoBulk d + 1
  | .map entries => uptoBulkEntries entries + 1
  | .held _ => 1
def uptoBulkAll {H : Type} : List (DataW H) → Nat
  | [] => 0
  | d :: r => uptoBulk d + uptoBulkAll r
def uptoBulkEntries {H : Type} : List (Lit × DataW H) → Nat
  | [] => 0
  | x :: r => uptoBulkEntry x + uptoBulkEntries r
def uptoBulkEntry {H : Type} : Lit × DataW H → Nat
  | (.string bytes, d) => bytes.length + uptoBulk d + 1
  | (_, d) => uptoBulk d + 1
 end
def uptoSmall : (H : Type) → List (DataW H) → Bool := fun _ ds => decide (uptoBulkAll ds ≤ 1048576)
def OpenSpec.upto (s : _root_.Go.ChangeSpec) : _root_.Go.OpenSpec := { _root_.Go.OpenSpec.ofChange s with cond := some uptoSmall }

/-- 'sallyportlaw9.LegalTells', WHERE WHAT IT READS IS OF BULK AT MOST 1048576: true; the input reads as it did. -/
def legalTellsUptoRow : OpenClaim := { program := "ythmanpfooegbcaadoor", sum := "e5c4988b3dfd2aa717ac704d7e7084f1b03660e0037dce1232fafdd5f526409f", func := "sallyport/sallyportlaw9.LegalTells", spec := "legalTells", named := ["sallyport/csr.registers", "sallyport/csr.views", "sallyport/legal.numbers", "sallyport/legal.causes", "sallyport/insn.groups", "sallyport/legal.operations"], apart := false, laid := [("sallyport/csr.registers", laid_sallyport_csr_registers), ("sallyport/csr.views", laid_sallyport_csr_views), ("sallyport/insn.groups", laid_sallyport_insn_groups), ("sallyport/legal.causes", laid_sallyport_legal_causes), ("sallyport/legal.numbers", laid_sallyport_legal_numbers), ("sallyport/legal.operations", laid_sallyport_legal_operations)], narrowed := true }
def LegalTellsUptoSaid : Prop := legalTellsUptoRow.holds Tryd.pinned (OpenSpec.upto legalTellsSpec)

/-- 'sallyportlaw9.LegalMore', WHERE WHAT IT READS IS OF BULK AT MOST 1048576: true; the input reads as it did. -/
def legalMoreUptoRow : OpenClaim := { program := "ythmanpfooegbcaadoor", sum := "e5c4988b3dfd2aa717ac704d7e7084f1b03660e0037dce1232fafdd5f526409f", func := "sallyport/sallyportlaw9.LegalMore", spec := "legalMore", named := ["sallyport/csr.registers", "sallyport/csr.views", "sallyport/legal.numbers", "sallyport/legal.causes", "sallyport/insn.groups", "sallyport/legal.operations"], apart := false, laid := [("sallyport/csr.registers", laid_sallyport_csr_registers), ("sallyport/csr.views", laid_sallyport_csr_views), ("sallyport/insn.groups", laid_sallyport_insn_groups), ("sallyport/legal.causes", laid_sallyport_legal_causes), ("sallyport/legal.numbers", laid_sallyport_legal_numbers), ("sallyport/legal.operations", laid_sallyport_legal_operations)], narrowed := true }
def LegalMoreUptoSaid : Prop := legalMoreUptoRow.holds Tryd.pinned (OpenSpec.upto legalMoreSpec)

/-- 'sallyportlaw9.LegalGuest', WHERE WHAT IT READS IS OF BULK AT MOST 1048576: true; the input reads as it did. -/
def legalGuestUptoRow : OpenClaim := { program := "ythmanpfooegbcaadoor", sum := "e5c4988b3dfd2aa717ac704d7e7084f1b03660e0037dce1232fafdd5f526409f", func := "sallyport/sallyportlaw9.LegalGuest", spec := "legalGuest", named := ["sallyport/csr.registers", "sallyport/csr.views", "sallyport/legal.numbers", "sallyport/legal.causes", "sallyport/insn.groups", "sallyport/legal.operations"], apart := false, laid := [("sallyport/csr.registers", laid_sallyport_csr_registers), ("sallyport/csr.views", laid_sallyport_csr_views), ("sallyport/insn.groups", laid_sallyport_insn_groups), ("sallyport/legal.causes", laid_sallyport_legal_causes), ("sallyport/legal.numbers", laid_sallyport_legal_numbers), ("sallyport/legal.operations", laid_sallyport_legal_operations)], narrowed := true }
def LegalGuestUptoSaid : Prop := legalGuestUptoRow.holds Tryd.pinned (OpenSpec.upto legalGuestSpec)

/-- 'sallyportlaw9.LegalPlain', WHERE WHAT IT READS IS OF BULK AT MOST 1048576: true; the input reads as it did. -/
def legalPlainUptoRow : OpenClaim := { program := "ythmanpfooegbcaadoor", sum := "e5c4988b3dfd2aa717ac704d7e7084f1b03660e0037dce1232fafdd5f526409f", func := "sallyport/sallyportlaw9.LegalPlain", spec := "legalPlain", named := ["sallyport/csr.registers", "sallyport/csr.views", "sallyport/legal.numbers", "sallyport/legal.causes", "sallyport/insn.groups", "sallyport/legal.operations"], apart := false, laid := [("sallyport/csr.registers", laid_sallyport_csr_registers), ("sallyport/csr.views", laid_sallyport_csr_views), ("sallyport/insn.groups", laid_sallyport_insn_groups), ("sallyport/legal.causes", laid_sallyport_legal_causes), ("sallyport/legal.numbers", laid_sallyport_legal_numbers), ("sallyport/legal.operations", laid_sallyport_legal_operations)], narrowed := true }
def LegalPlainUptoSaid : Prop := legalPlainUptoRow.holds Tryd.pinned (OpenSpec.upto legalPlainSpec)

/-- 'sallyportlaw9.LegalReads', WHERE WHAT IT READS IS OF BULK AT MOST 1048576: true; the input reads as it did. -/
def legalReadsUptoRow : OpenClaim := { program := "ythmanpfooegbcaadoor", sum := "e5c4988b3dfd2aa717ac704d7e7084f1b03660e0037dce1232fafdd5f526409f", func := "sallyport/sallyportlaw9.LegalReads", spec := "legalReads", named := ["sallyport/csr.registers", "sallyport/csr.views", "sallyport/legal.numbers", "sallyport/legal.causes", "sallyport/insn.groups", "sallyport/legal.operations"], apart := false, laid := [("sallyport/csr.registers", laid_sallyport_csr_registers), ("sallyport/csr.views", laid_sallyport_csr_views), ("sallyport/insn.groups", laid_sallyport_insn_groups), ("sallyport/legal.causes", laid_sallyport_legal_causes), ("sallyport/legal.numbers", laid_sallyport_legal_numbers), ("sallyport/legal.operations", laid_sallyport_legal_operations)], narrowed := true }
def LegalReadsUptoSaid : Prop := legalReadsUptoRow.holds Tryd.pinned (OpenSpec.upto legalReadsSpec)

end Rows
end Go.Proofs.YthmanpfooegbcaaDoor
