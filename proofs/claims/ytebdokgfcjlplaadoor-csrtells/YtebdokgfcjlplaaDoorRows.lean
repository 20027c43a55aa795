/-
  NARROWER THAN 'FOR EVERY INPUT', by the rows' own cells (each row's printed sentence says how): CsrTells: laid · CsrBack: laid · CsrViews: laid · CsrNumbers: laid · CsrGuests: laid · CsrPending: laid.
  DERIVED. THE GIVEN ROWS OF THIS SEAT. 6 by the template 'for every input the law returns true; each argument reads behind the call as it read before'; 0 by the template 'total and deterministic' (their statements: YtebdokgfcjlplaaDoorTotals.lean).
  GIVEN WITH THE SEED: the statements are not yours to turn. If you find one false, say at which input.
  Laid BY PROGRAM, IN A SANDBOX (cutbox-rows.mjs): the forced cells as the released guide's own fill.sh prints them over the translation e17fb47b1686c5b8… (all of the seat's roots in one cut). By AI agents, Wed Nov 11 2026. No macro, syntax, notation, axiom, sorry.
-/
import Derived.Test.YtebdokgfcjlplaaDoorChecked
import GoSem.Claim
import GoSem.ClaimJoined
import GoSem.ClaimMapViews
import Derived.JoinedTies
import Derived.KernelRfl
namespace Go.Proofs.YtebdokgfcjlplaaDoor
/- THE CELL 'sum', in the pinned program and in every row, IS THE sha256 OF THE DUMP (.gsa) THAT YtebdokgfcjlplaaDoorProg.lean LOADS. Nothing in Lean hashes anything: it is a label: what it is worth is what the hold of that sum in a sandbox is worth. -/
noncomputable def Tryd.pinned : Pinned := { name := "ytebdokgfcjlplaadoor", sum := "e17fb47b1686c5b8e2ec6096fb2bda6b5f4569ecb19c290bc81639526b22f3d1", checked := Tryd.checked }
namespace Rows
def none {H : Type} : Left H := { results := [], args := [] }

/- WHAT THE LISTED PACKAGE-LEVEL VARIABLES READ AS WHEN THE CALL BEGINS. Each datum BY PROGRAM (the guide's laid-datum.mjs) off the statement by which the dump's own 'gosem.cut.vars' lays the variable. In a bare row this is a premise. The card (YtebdokgfcjlplaaDoorCards.lean) ties it to the program's text. -/
def laid_sallyport_csr_registers {H : Type} : DataW H := .agg [.agg [.lit (.int .i64 768), .lit (.int .u64 824641853866)], .agg [.lit (.int .i64 770), .lit (.int .u64 15775231)], .agg [.lit (.int .i64 771), .lit (.int .u64 544)], .agg [.lit (.int .i64 772), .lit (.int .u64 1632)], .agg [.lit (.int .i64 773), .lit (.int .u64 18446744073709551612)], .agg [.lit (.int .i64 832), .lit (.int .u64 18446744073709551615)], .agg [.lit (.int .i64 833), .lit (.int .u64 18446744073709551612)], .agg [.lit (.int .i64 834), .lit (.int .u64 18446744073709551615)], .agg [.lit (.int .i64 835), .lit (.int .u64 18446744073709551615)], .agg [.lit (.int .i64 843), .lit (.int .u64 18446744073709551615)], .agg [.lit (.int .i64 261), .lit (.int .u64 18446744073709551612)], .agg [.lit (.int .i64 320), .lit (.int .u64 18446744073709551615)], .agg [.lit (.int .i64 321), .lit (.int .u64 18446744073709551612)], .agg [.lit (.int .i64 322), .lit (.int .u64 18446744073709551615)], .agg [.lit (.int .i64 323), .lit (.int .u64 18446744073709551615)], .agg [.lit (.int .i64 384), .lit (.int .u64 9223372036871487743)], .agg [.lit (.int .i64 1536), .lit (.int .u64 7340992)], .agg [.lit (.int .i64 1538), .lit (.int .u64 45567)], .agg [.lit (.int .i64 1539), .lit (.int .u64 1088)], .agg [.lit (.int .i64 1605), .lit (.int .u64 1088)], .agg [.lit (.int .i64 1603), .lit (.int .u64 18446744073709551615)], .agg [.lit (.int .i64 1664), .lit (.int .u64 9223372036871487743)], .agg [.lit (.int .i64 512), .lit (.int .u64 786722)], .agg [.lit (.int .i64 517), .lit (.int .u64 18446744073709551612)], .agg [.lit (.int .i64 576), .lit (.int .u64 18446744073709551615)], .agg [.lit (.int .i64 577), .lit (.int .u64 18446744073709551612)], .agg [.lit (.int .i64 578), .lit (.int .u64 18446744073709551615)], .agg [.lit (.int .i64 579), .lit (.int .u64 18446744073709551615)], .agg [.lit (.int .i64 640), .lit (.int .u64 9223372036871487743)]]
def laid_sallyport_csr_views {H : Type} : DataW H := .agg [.agg [.lit (.int .i64 256), .lit (.int .i64 0), .lit (.int .u64 786722), .lit (.int .u8 0)], .agg [.lit (.int .i64 260), .lit (.int .i64 3), .lit (.int .u64 544), .lit (.int .u8 0)], .agg [.lit (.int .i64 516), .lit (.int .i64 3), .lit (.int .u64 1088), .lit (.int .u8 1)]]
def laid_sallyport_csr_guests {H : Type} : DataW H := .agg [.agg [.lit (.int .i64 256), .lit (.int .i64 512)], .agg [.lit (.int .i64 260), .lit (.int .i64 516)], .agg [.lit (.int .i64 261), .lit (.int .i64 517)], .agg [.lit (.int .i64 320), .lit (.int .i64 576)], .agg [.lit (.int .i64 321), .lit (.int .i64 577)], .agg [.lit (.int .i64 322), .lit (.int .i64 578)], .agg [.lit (.int .i64 323), .lit (.int .i64 579)], .agg [.lit (.int .i64 384), .lit (.int .i64 640)]]

/-- 'sallyportlaw8.CsrTells': WHATEVER THE INPUT: true; the input reads as it did. -/
def csrTellsSpec : ChangeSpec := { name := "csrTells", fn := fun _ => fun
  | [d1, d2, d3, d4, d5, d6] => { results := [.lit (.bool true)], args := [d1, d2, d3, d4, d5, d6] }
  | _ => none }
def csrTellsRow : OpenClaim := { program := "ytebdokgfcjlplaadoor", sum := "e17fb47b1686c5b8e2ec6096fb2bda6b5f4569ecb19c290bc81639526b22f3d1", func := "sallyport/sallyportlaw8.CsrTells", spec := "csrTells", named := ["sallyport/csr.registers", "sallyport/csr.views", "sallyport/csr.guests"], apart := false, laid := [("sallyport/csr.registers", laid_sallyport_csr_registers), ("sallyport/csr.views", laid_sallyport_csr_views), ("sallyport/csr.guests", laid_sallyport_csr_guests)] }
def CsrTellsSaid : Prop := csrTellsRow.holds Tryd.pinned (OpenSpec.ofChange csrTellsSpec)

/-- ITS FALSE NEIGHBOUR: 'it returns false'. Refute it at one input. -/
def csrTellsWrong : ChangeSpec := { name := "csrTells", fn := fun _ => fun
  | [d1, d2, d3, d4, d5, d6] => { results := [.lit (.bool false)], args := [d1, d2, d3, d4, d5, d6] }
  | _ => none }
def CsrTellsWrongFalsely : Prop := csrTellsRow.holds Tryd.pinned (OpenSpec.ofChange csrTellsWrong)

/-- 'sallyportlaw8.CsrBack': WHATEVER THE INPUT: true; the input reads as it did. -/
def csrBackSpec : ChangeSpec := { name := "csrBack", fn := fun _ => fun
  | [d1, d2, d3] => { results := [.lit (.bool true)], args := [d1, d2, d3] }
  | _ => none }
def csrBackRow : OpenClaim := { program := "ytebdokgfcjlplaadoor", sum := "e17fb47b1686c5b8e2ec6096fb2bda6b5f4569ecb19c290bc81639526b22f3d1", func := "sallyport/sallyportlaw8.CsrBack", spec := "csrBack", named := ["sallyport/csr.registers", "sallyport/csr.views", "sallyport/csr.guests"], apart := false, laid := [("sallyport/csr.registers", laid_sallyport_csr_registers), ("sallyport/csr.views", laid_sallyport_csr_views), ("sallyport/csr.guests", laid_sallyport_csr_guests)] }
def CsrBackSaid : Prop := csrBackRow.holds Tryd.pinned (OpenSpec.ofChange csrBackSpec)

/-- ITS FALSE NEIGHBOUR: 'it returns false'. Refute it at one input. -/
def csrBackWrong : ChangeSpec := { name := "csrBack", fn := fun _ => fun
  | [d1, d2, d3] => { results := [.lit (.bool false)], args := [d1, d2, d3] }
  | _ => none }
def CsrBackWrongFalsely : Prop := csrBackRow.holds Tryd.pinned (OpenSpec.ofChange csrBackWrong)

/-- 'sallyportlaw8.CsrViews': WHATEVER THE INPUT: true; the input reads as it did. -/
def csrViewsSpec : ChangeSpec := { name := "csrViews", fn := fun _ => fun
  | [d1, d2] => { results := [.lit (.bool true)], args := [d1, d2] }
  | _ => none }
def csrViewsRow : OpenClaim := { program := "ytebdokgfcjlplaadoor", sum := "e17fb47b1686c5b8e2ec6096fb2bda6b5f4569ecb19c290bc81639526b22f3d1", func := "sallyport/sallyportlaw8.CsrViews", spec := "csrViews", named := ["sallyport/csr.registers", "sallyport/csr.views", "sallyport/csr.guests"], apart := false, laid := [("sallyport/csr.registers", laid_sallyport_csr_registers), ("sallyport/csr.views", laid_sallyport_csr_views), ("sallyport/csr.guests", laid_sallyport_csr_guests)] }
def CsrViewsSaid : Prop := csrViewsRow.holds Tryd.pinned (OpenSpec.ofChange csrViewsSpec)

/-- ITS FALSE NEIGHBOUR: 'it returns false'. Refute it at one input. -/
def csrViewsWrong : ChangeSpec := { name := "csrViews", fn := fun _ => fun
  | [d1, d2] => { results := [.lit (.bool false)], args := [d1, d2] }
  | _ => none }
def CsrViewsWrongFalsely : Prop := csrViewsRow.holds Tryd.pinned (OpenSpec.ofChange csrViewsWrong)

/-- 'sallyportlaw8.CsrNumbers': WHATEVER THE INPUT: true; the input reads as it did. -/
def csrNumbersSpec : ChangeSpec := { name := "csrNumbers", fn := fun _ => fun
  | [d1, d2] => { results := [.lit (.bool true)], args := [d1, d2] }
  | _ => none }
def csrNumbersRow : OpenClaim := { program := "ytebdokgfcjlplaadoor", sum := "e17fb47b1686c5b8e2ec6096fb2bda6b5f4569ecb19c290bc81639526b22f3d1", func := "sallyport/sallyportlaw8.CsrNumbers", spec := "csrNumbers", named := ["sallyport/csr.registers", "sallyport/csr.views", "sallyport/csr.guests"], apart := false, laid := [("sallyport/csr.registers", laid_sallyport_csr_registers), ("sallyport/csr.views", laid_sallyport_csr_views), ("sallyport/csr.guests", laid_sallyport_csr_guests)] }
def CsrNumbersSaid : Prop := csrNumbersRow.holds Tryd.pinned (OpenSpec.ofChange csrNumbersSpec)

/-- ITS FALSE NEIGHBOUR: 'it returns false'. Refute it at one input. -/
def csrNumbersWrong : ChangeSpec := { name := "csrNumbers", fn := fun _ => fun
  | [d1, d2] => { results := [.lit (.bool false)], args := [d1, d2] }
  | _ => none }
def CsrNumbersWrongFalsely : Prop := csrNumbersRow.holds Tryd.pinned (OpenSpec.ofChange csrNumbersWrong)

/-- 'sallyportlaw8.CsrGuests': WHATEVER THE INPUT: true; the input reads as it did. -/
def csrGuestsSpec : ChangeSpec := { name := "csrGuests", fn := fun _ => fun
  | [d1, d2, d3] => { results := [.lit (.bool true)], args := [d1, d2, d3] }
  | _ => none }
def csrGuestsRow : OpenClaim := { program := "ytebdokgfcjlplaadoor", sum := "e17fb47b1686c5b8e2ec6096fb2bda6b5f4569ecb19c290bc81639526b22f3d1", func := "sallyport/sallyportlaw8.CsrGuests", spec := "csrGuests", named := ["sallyport/csr.registers", "sallyport/csr.views", "sallyport/csr.guests"], apart := false, laid := [("sallyport/csr.registers", laid_sallyport_csr_registers), ("sallyport/csr.views", laid_sallyport_csr_views), ("sallyport/csr.guests", laid_sallyport_csr_guests)] }
def CsrGuestsSaid : Prop := csrGuestsRow.holds Tryd.pinned (OpenSpec.ofChange csrGuestsSpec)

/-- ITS FALSE NEIGHBOUR: 'it returns false'. Refute it at one input. -/
def csrGuestsWrong : ChangeSpec := { name := "csrGuests", fn := fun _ => fun
  | [d1, d2, d3] => { results := [.lit (.bool false)], args := [d1, d2, d3] }
  | _ => none }
def CsrGuestsWrongFalsely : Prop := csrGuestsRow.holds Tryd.pinned (OpenSpec.ofChange csrGuestsWrong)

/-- 'sallyportlaw8.CsrPending': WHATEVER THE INPUT: true; the input reads as it did. -/
def csrPendingSpec : ChangeSpec := { name := "csrPending", fn := fun _ => fun
  | [d1, d2, d3, d4] => { results := [.lit (.bool true)], args := [d1, d2, d3, d4] }
  | _ => none }
def csrPendingRow : OpenClaim := { program := "ytebdokgfcjlplaadoor", sum := "e17fb47b1686c5b8e2ec6096fb2bda6b5f4569ecb19c290bc81639526b22f3d1", func := "sallyport/sallyportlaw8.CsrPending", spec := "csrPending", named := ["sallyport/csr.registers", "sallyport/csr.views", "sallyport/csr.guests"], apart := false, laid := [("sallyport/csr.registers", laid_sallyport_csr_registers), ("sallyport/csr.views", laid_sallyport_csr_views), ("sallyport/csr.guests", laid_sallyport_csr_guests)] }
def CsrPendingSaid : Prop := csrPendingRow.holds Tryd.pinned (OpenSpec.ofChange csrPendingSpec)

/-- ITS FALSE NEIGHBOUR: 'it returns false'. Refute it at one input. -/
def csrPendingWrong : ChangeSpec := { name := "csrPending", fn := fun _ => fun
  | [d1, d2, d3, d4] => { results := [.lit (.bool false)], args := [d1, d2, d3, d4] }
  | _ => none }
def CsrPendingWrongFalsely : Prop := csrPendingRow.holds Tryd.pinned (OpenSpec.ofChange csrPendingWrong)

/- THE SECOND FORM. 'bulk': how many values and letters a reading holds, each counted each time it is reached (what is shared counts as often as it is met; a slice's spare places count too). A statement '..UptoSaid' is the law's where the arguments, and the package variables that the reading takes, are together of bulk at most 1048576: NARROWER than '..Said'. Prove '..Said' where nothing that the law and all that it calls make is longer than what came in: it says more and counts as full. Else prove '..UptoSaid'. A law counts once. -/
mutual
def uptoBulk {H : Type} : DataW H → Nat
  | .lit (.string bytes) => bytes.length + 1
  | .lit _ => 1
  | .nil => 1
  | .ptr d => uptoBulk d + 1
  | .slice elems spare => uptoBulkAll elems + uptoBulkAll spare + 1
  | .agg parts => uptoBulkAll parts + 1
  | .iface _ d => uptoBulk d + 1
  | .map entries => uptoBulkEntries entries + 1
  | .held _ => 1
def uptoBulkAll {H : Type} : List (DataW H) → Nat
  | [] => 0
  | d :: r => uptoBulk d + uptoBulkAll r
def uptoBulkEntries {H : Type} : List (Lit × DataW H) → Nat
  | [] => 0
  | x :: r => uptoBulkEntry x + uptoBulkEntries r
def uptoBulkEntry {H : Type} : Lit × DataW H → Nat
  | (.string bytes, d) => bytes.length + uptoBulk d + 1
  | (_, d) => uptoBulk d + 1
 end
def uptoSmall : (H : Type) → List (DataW H) → Bool := fun _ ds => decide (uptoBulkAll ds ≤ 1048576)
def OpenSpec.upto (s : _root_.Go.ChangeSpec) : _root_.Go.OpenSpec := { _root_.Go.OpenSpec.ofChange s with cond := some uptoSmall }

/-- 'sallyportlaw8.CsrTells', WHERE WHAT IT READS IS OF BULK AT MOST 1048576: true; the input reads as it did. -/
def csrTellsUptoRow : OpenClaim := { program := "ytebdokgfcjlplaadoor", sum := "e17fb47b1686c5b8e2ec6096fb2bda6b5f4569ecb19c290bc81639526b22f3d1", func := "sallyport/sallyportlaw8.CsrTells", spec := "csrTells", named := ["sallyport/csr.registers", "sallyport/csr.views", "sallyport/csr.guests"], apart := false, laid := [("sallyport/csr.registers", laid_sallyport_csr_registers), ("sallyport/csr.views", laid_sallyport_csr_views), ("sallyport/csr.guests", laid_sallyport_csr_guests)], narrowed := true }
def CsrTellsUptoSaid : Prop := csrTellsUptoRow.holds Tryd.pinned (OpenSpec.upto csrTellsSpec)

/-- 'sallyportlaw8.CsrBack', WHERE WHAT IT READS IS OF BULK AT MOST 1048576: true; the input reads as it did. -/
def csrBackUptoRow : OpenClaim := { program := "ytebdokgfcjlplaadoor", sum := "e17fb47b1686c5b8e2ec6096fb2bda6b5f4569ecb19c290bc81639526b22f3d1", func := "sallyport/sallyportlaw8.CsrBack", spec := "csrBack", named := ["sallyport/csr.registers", "sallyport/csr.views", "sallyport/csr.guests"], apart := false, laid := [("sallyport/csr.registers", laid_sallyport_csr_registers), ("sallyport/csr.views", laid_sallyport_csr_views), ("sallyport/csr.guests", laid_sallyport_csr_guests)], narrowed := true }
def CsrBackUptoSaid : Prop := csrBackUptoRow.holds Tryd.pinned (OpenSpec.upto csrBackSpec)

/-- 'sallyportlaw8.CsrViews', WHERE WHAT IT READS IS OF BULK AT MOST 1048576: true; the input reads as it did. -/
def csrViewsUptoRow : OpenClaim := { program := "ytebdokgfcjlplaadoor", sum := "e17fb47b1686c5b8e2ec6096fb2bda6b5f4569ecb19c290bc81639526b22f3d1", func := "sallyport/sallyportlaw8.CsrViews", spec := "csrViews", named := ["sallyport/csr.registers", "sallyport/csr.views", "sallyport/csr.guests"], apart := false, laid := [("sallyport/csr.registers", laid_sallyport_csr_registers), ("sallyport/csr.views", laid_sallyport_csr_views), ("sallyport/csr.guests", laid_sallyport_csr_guests)], narrowed := true }
def CsrViewsUptoSaid : Prop := csrViewsUptoRow.holds Tryd.pinned (OpenSpec.upto csrViewsSpec)

/-- 'sallyportlaw8.CsrNumbers', WHERE WHAT IT READS IS OF BULK AT MOST 1048576: true; the input reads as it did. -/
def csrNumbersUptoRow : OpenClaim := { program := "ytebdokgfcjlplaadoor", sum := "e17fb47b1686c5b8e2ec6096fb2bda6b5f4569ecb19c290bc81639526b22f3d1", func := "sallyport/sallyportlaw8.CsrNumbers", spec := "csrNumbers", named := ["sallyport/csr.registers", "sallyport/csr.views", "sallyport/csr.guests"], apart := false, laid := [("sallyport/csr.registers", laid_sallyport_csr_registers), ("sallyport/csr.views", laid_sallyport_csr_views), ("sallyport/csr.guests", laid_sallyport_csr_guests)], narrowed := true }
def CsrNumbersUptoSaid : Prop := csrNumbersUptoRow.holds Tryd.pinned (OpenSpec.upto csrNumbersSpec)

/-- 'sallyportlaw8.CsrGuests', WHERE WHAT IT READS IS OF BULK AT MOST 1048576: true; the input reads as it did. -/
def csrGuestsUptoRow : OpenClaim := { program := "ytebdokgfcjlplaadoor", sum := "e17fb47b1686c5b8e2ec6096fb2bda6b5f4569ecb19c290bc81639526b22f3d1", func := "sallyport/sallyportlaw8.CsrGuests", spec := "csrGuests", named := ["sallyport/csr.registers", "sallyport/csr.views", "sallyport/csr.guests"], apart := false, laid := [("sallyport/csr.registers", laid_sallyport_csr_registers), ("sallyport/csr.views", laid_sallyport_csr_views), ("sallyport/csr.guests", laid_sallyport_csr_guests)], narrowed := true }
def CsrGuestsUptoSaid : Prop := csrGuestsUptoRow.holds Tryd.pinned (OpenSpec.upto csrGuestsSpec)

/-- 'sallyportlaw8.CsrPending', WHERE WHAT IT READS IS OF BULK AT MOST 1048576: true; the input reads as it did. -/
def csrPendingUptoRow : OpenClaim := { program := "ytebdokgfcjlplaadoor", sum := "e17fb47b1686c5b8e2ec6096fb2bda6b5f4569ecb19c290bc81639526b22f3d1", func := "sallyport/sallyportlaw8.CsrPending", spec := "csrPending", named := ["sallyport/csr.registers", "sallyport/csr.views", "sallyport/csr.guests"], apart := false, laid := [("sallyport/csr.registers", laid_sallyport_csr_registers), ("sallyport/csr.views", laid_sallyport_csr_views), ("sallyport/csr.guests", laid_sallyport_csr_guests)], narrowed := true }
def CsrPendingUptoSaid : Prop := csrPendingUptoRow.holds Tryd.pinned (OpenSpec.upto csrPendingSpec)

end Rows
end Go.Proofs.YtebdokgfcjlplaaDoor
