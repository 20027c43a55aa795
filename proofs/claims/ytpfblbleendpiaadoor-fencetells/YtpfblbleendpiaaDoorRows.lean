/-
  NARROWER THAN 'FOR EVERY INPUT', by the rows' own cells (each row's printed sentence says how): FenceTells: laid.
  DERIVED. THE GIVEN ROWS OF THIS SEAT. 1 by the template 'for every input the law returns true; each argument reads behind the call as it read before'; 0 by the template 'total and deterministic' (their statements: YtpfblbleendpiaaDoorTotals.lean).
  GIVEN WITH THE SEED: the statements are not yours to turn. If you find one false, say at which input.
  Laid BY PROGRAM, IN A SANDBOX (cutbox-rows.mjs): the forced cells as the released guide's own fill.sh prints them over the translation 98575dcbfa6a7767… (all of the seat's roots in one cut). By AI agents, Wed Nov 11 2026. No macro, syntax, notation, axiom, sorry.
-/
import Derived.Test.YtpfblbleendpiaaDoorChecked
import GoSem.Claim
import GoSem.ClaimJoined
import GoSem.ClaimMapViews
import Derived.JoinedTies
import Derived.KernelRfl
namespace Go.Proofs.YtpfblbleendpiaaDoor
/- THE CELL 'sum', in the pinned program and in every row, IS THE sha256 OF THE DUMP (.gsa) THAT YtpfblbleendpiaaDoorProg.lean LOADS. Nothing in Lean hashes anything: it is a label: what it is worth is what the hold of that sum in a sandbox is worth. -/
noncomputable def Tryd.pinned : Pinned := { name := "ytpfblbleendpiaadoor", sum := "98575dcbfa6a7767d589ad4e85f1b2eb17ba12c648c899b5408fd09b6fc229b9", checked := Tryd.checked }
namespace Rows
def none {H : Type} : Left H := { results := [], args := [] }

/- WHAT THE LISTED PACKAGE-LEVEL VARIABLES READ AS WHEN THE CALL BEGINS. Each datum BY PROGRAM (the guide's laid-datum.mjs) off the statement by which the dump's own 'gosem.cut.vars' lays the variable. In a bare row this is a premise. The card (YtpfblbleendpiaaDoorCards.lean) ties it to the program's text. -/
def laid_sallyport_csr_registers {H : Type} : DataW H := .agg [.agg [.lit (.int .i64 768), .lit (.int .u64 824641853866)], .agg [.lit (.int .i64 770), .lit (.int .u64 15775231)], .agg [.lit (.int .i64 771), .lit (.int .u64 544)], .agg [.lit (.int .i64 772), .lit (.int .u64 1632)], .agg [.lit (.int .i64 773), .lit (.int .u64 18446744073709551612)], .agg [.lit (.int .i64 832), .lit (.int .u64 18446744073709551615)], .agg [.lit (.int .i64 833), .lit (.int .u64 18446744073709551612)], .agg [.lit (.int .i64 834), .lit (.int .u64 18446744073709551615)], .agg [.lit (.int .i64 835), .lit (.int .u64 18446744073709551615)], .agg [.lit (.int .i64 843), .lit (.int .u64 18446744073709551615)], .agg [.lit (.int .i64 261), .lit (.int .u64 18446744073709551612)], .agg [.lit (.int .i64 320), .lit (.int .u64 18446744073709551615)], .agg [.lit (.int .i64 321), .lit (.int .u64 18446744073709551612)], .agg [.lit (.int .i64 322), .lit (.int .u64 18446744073709551615)], .agg [.lit (.int .i64 323), .lit (.int .u64 18446744073709551615)], .agg [.lit (.int .i64 384), .lit (.int .u64 9223372036871487743)], .agg [.lit (.int .i64 1536), .lit (.int .u64 7340992)], .agg [.lit (.int .i64 1538), .lit (.int .u64 45567)], .agg [.lit (.int .i64 1539), .lit (.int .u64 1088)], .agg [.lit (.int .i64 1605), .lit (.int .u64 1088)], .agg [.lit (.int .i64 1603), .lit (.int .u64 18446744073709551615)], .agg [.lit (.int .i64 1664), .lit (.int .u64 9223372036871487743)], .agg [.lit (.int .i64 512), .lit (.int .u64 786722)], .agg [.lit (.int .i64 517), .lit (.int .u64 18446744073709551612)], .agg [.lit (.int .i64 576), .lit (.int .u64 18446744073709551615)], .agg [.lit (.int .i64 577), .lit (.int .u64 18446744073709551612)], .agg [.lit (.int .i64 578), .lit (.int .u64 18446744073709551615)], .agg [.lit (.int .i64 579), .lit (.int .u64 18446744073709551615)], .agg [.lit (.int .i64 640), .lit (.int .u64 9223372036871487743)]]
def laid_sallyport_csr_guests {H : Type} : DataW H := .agg [.agg [.lit (.int .i64 256), .lit (.int .i64 512)], .agg [.lit (.int .i64 260), .lit (.int .i64 516)], .agg [.lit (.int .i64 261), .lit (.int .i64 517)], .agg [.lit (.int .i64 320), .lit (.int .i64 576)], .agg [.lit (.int .i64 321), .lit (.int .i64 577)], .agg [.lit (.int .i64 322), .lit (.int .i64 578)], .agg [.lit (.int .i64 323), .lit (.int .i64 579)], .agg [.lit (.int .i64 384), .lit (.int .i64 640)]]

/-- 'sallyportlaw14.FenceTells': WHATEVER THE INPUT: true; the input reads as it did. -/
def fenceTellsSpec : ChangeSpec := { name := "fenceTells", fn := fun _ => fun
  | [d1, d2, d3, d4, d5, d6] => { results := [.lit (.bool true)], args := [d1, d2, d3, d4, d5, d6] }
  | _ => none }
def fenceTellsRow : OpenClaim := { program := "ytpfblbleendpiaadoor", sum := "98575dcbfa6a7767d589ad4e85f1b2eb17ba12c648c899b5408fd09b6fc229b9", func := "sallyport/sallyportlaw14.FenceTells", spec := "fenceTells", unfollowed := true, recurses := true, named := ["sallyport/csr.guests", "sallyport/csr.registers"], apart := false, laid := [("sallyport/csr.registers", laid_sallyport_csr_registers), ("sallyport/csr.guests", laid_sallyport_csr_guests)] }
def FenceTellsSaid : Prop := fenceTellsRow.holds Tryd.pinned (OpenSpec.ofChange fenceTellsSpec)

/-- ITS FALSE NEIGHBOUR: 'it returns false'. Refute it at one input. -/
def fenceTellsWrong : ChangeSpec := { name := "fenceTells", fn := fun _ => fun
  | [d1, d2, d3, d4, d5, d6] => { results := [.lit (.bool false)], args := [d1, d2, d3, d4, d5, d6] }
  | _ => none }
def FenceTellsWrongFalsely : Prop := fenceTellsRow.holds Tryd.pinned (OpenSpec.ofChange fenceTellsWrong)

/- THE SECOND FORM. 'bulk': how many values and letters a reading holds, each counted each time it is reached (what is shared counts as often as it is met; a slice's spare places count too). A statement '..UptoSaid' is the law's where the arguments, and the package variables that the reading takes, are together of bulk at most 1048576: NARROWER than '..Said'. Prove '..Said' where nothing that the law and all that it calls make is longer than what came in: it says more and counts as full. Else prove '..UptoSaid'. A law counts once. -/
mutual
def uptoBulk {H : Type} : DataW H → Nat
  | .lit (.string bytes) => bytes.length + 1
  | .lit _ => 1
  | .nil => 1
  | .ptr d => uptoBulk d + 1
  | .slice elems spare => uptoBulkAll elems + uptoBulkAll spare + 1
  | .agg parts => uptoBulkAll parts + 1
  | .iface _ d => uptoBulk d + 1
  | .map entries => uptoBulkEntries entries + 1
  | .held _ => 1
def uptoBulkAll {H : Type} : List (DataW H) → Nat
  | [] => 0
  | d :: r => uptoBulk d + uptoBulkAll r
def uptoBulkEntries {H : Type} : List (Lit × DataW H) → Nat
  | [] => 0
  | x :: r => uptoBulkEntry x + uptoBulkEntries r
def uptoBulkEntry {H : Type} : Lit × DataW H → Nat
  | (.string bytes, d) => bytes.length + uptoBulk d + 1
  | (_, d) => uptoBulk d + 1
 end
def uptoSmall : (H : Type) → List (DataW H) → Bool := fun _ ds => decide (uptoBulkAll ds ≤ 1048576)
def OpenSpec.upto (s : _root_.Go.ChangeSpec) : _root_.Go.OpenSpec := { _root_.Go.OpenSpec.ofChange s with cond := some uptoSmall }

/-- 'sallyportlaw14.FenceTells', WHERE WHAT IT READS IS OF BULK AT MOST 1048576: true; the input reads as it did. -/
def fenceTellsUptoRow : OpenClaim := { program := "ytpfblbleendpiaadoor", sum := "98575dcbfa6a7767d589ad4e85f1b2eb17ba12c648c899b5408fd09b6fc229b9", func := "sallyport/sallyportlaw14.FenceTells", spec := "fenceTells", unfollowed := true, recurses := true, named := ["sallyport/csr.guests", "sallyport/csr.registers"], apart := false, laid := [("sallyport/csr.registers", laid_sallyport_csr_registers), ("sallyport/csr.guests", laid_sallyport_csr_guests)], narrowed := true }
def FenceTellsUptoSaid : Prop := fenceTellsUptoRow.holds Tryd.pinned (OpenSpec.upto fenceTellsSpec)

end Rows
end Go.Proofs.YtpfblbleendpiaaDoor
