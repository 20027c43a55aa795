/-
  NARROWER THAN 'FOR EVERY INPUT', by the rows' own cells (each row's printed sentence says how): AluBits: laid.
  DERIVED. THE GIVEN ROWS OF THIS SEAT. 1 by the template 'for every input the law returns true; each argument reads behind the call as it read before'; 0 by the template 'total and deterministic' (their statements: YtbeehnfmhclbmabDoorTotals.lean).
  GIVEN WITH THE SEED: the statements are not yours to turn. If you find one false, say at which input.
  Laid BY PROGRAM, IN A SANDBOX (cutbox-rows.mjs): the forced cells as the released guide's own fill.sh prints them over the translation d5599560de2f8c3d… (all of the seat's roots in one cut). By AI agents, Wed Nov 11 2026. No macro, syntax, notation, axiom, sorry.
-/
import Derived.Test.YtbeehnfmhclbmabDoorChecked
import GoSem.Claim
import GoSem.ClaimJoined
import GoSem.ClaimMapViews
import Derived.JoinedTies
import Derived.KernelRfl
namespace Go.Proofs.YtbeehnfmhclbmabDoor
/- THE CELL 'sum', in the pinned program and in every row, IS THE sha256 OF THE DUMP (.gsa) THAT YtbeehnfmhclbmabDoorProg.lean LOADS. Nothing in Lean hashes anything: it is a label: what it is worth is what the hold of that sum in a sandbox is worth. -/
noncomputable def Tryd.pinned : Pinned := { name := "ytbeehnfmhclbmabdoor", sum := "d5599560de2f8c3d10b2ca7285f13997b55d60038528c1d542cdd02209e9f8a4", checked := Tryd.checked }
namespace Rows
def none {H : Type} : Left H := { results := [], args := [] }

/- WHAT THE LISTED PACKAGE-LEVEL VARIABLES READ AS WHEN THE CALL BEGINS. Each datum BY PROGRAM (the guide's laid-datum.mjs) off the statement by which the dump's own 'gosem.cut.vars' lays the variable. In a bare row this is a premise. The card (YtbeehnfmhclbmabDoorCards.lean) ties it to the program's text. -/
def laid_sallyport_insn_groups {H : Type} : DataW H := .agg [.agg [.lit (.int .i64 1), .lit (.int .i64 2), .agg [.lit (.int .i64 1), .lit (.int .i64 1), .lit (.int .i64 (-2147483648)), .lit (.int .i64 2147479552), .lit (.int .i64 4096)]], .agg [.lit (.int .i64 3), .lit (.int .i64 3), .agg [.lit (.int .i64 1), .lit (.int .i64 1), .lit (.int .i64 (-1048576)), .lit (.int .i64 1048574), .lit (.int .i64 2)]], .agg [.lit (.int .i64 4), .lit (.int .i64 4), .agg [.lit (.int .i64 1), .lit (.int .i64 3), .lit (.int .i64 (-2048)), .lit (.int .i64 2047), .lit (.int .i64 1)]], .agg [.lit (.int .i64 5), .lit (.int .i64 10), .agg [.lit (.int .i64 2), .lit (.int .i64 6), .lit (.int .i64 (-4096)), .lit (.int .i64 4094), .lit (.int .i64 2)]], .agg [.lit (.int .i64 11), .lit (.int .i64 17), .agg [.lit (.int .i64 3), .lit (.int .i64 3), .lit (.int .i64 (-2048)), .lit (.int .i64 2047), .lit (.int .i64 1)]], .agg [.lit (.int .i64 18), .lit (.int .i64 21), .agg [.lit (.int .i64 4), .lit (.int .i64 6), .lit (.int .i64 (-2048)), .lit (.int .i64 2047), .lit (.int .i64 1)]], .agg [.lit (.int .i64 22), .lit (.int .i64 27), .agg [.lit (.int .i64 5), .lit (.int .i64 3), .lit (.int .i64 (-2048)), .lit (.int .i64 2047), .lit (.int .i64 1)]], .agg [.lit (.int .i64 28), .lit (.int .i64 30), .agg [.lit (.int .i64 5), .lit (.int .i64 3), .lit (.int .i64 0), .lit (.int .i64 63), .lit (.int .i64 1)]], .agg [.lit (.int .i64 31), .lit (.int .i64 31), .agg [.lit (.int .i64 5), .lit (.int .i64 3), .lit (.int .i64 (-2048)), .lit (.int .i64 2047), .lit (.int .i64 1)]], .agg [.lit (.int .i64 32), .lit (.int .i64 34), .agg [.lit (.int .i64 5), .lit (.int .i64 3), .lit (.int .i64 0), .lit (.int .i64 31), .lit (.int .i64 1)]], .agg [.lit (.int .i64 35), .lit (.int .i64 49), .agg [.lit (.int .i64 6), .lit (.int .i64 7), .lit (.int .i64 0), .lit (.int .i64 0), .lit (.int .i64 1)]], .agg [.lit (.int .i64 50), .lit (.int .i64 51), .agg [.lit (.int .i64 7), .lit (.int .i64 0), .lit (.int .i64 0), .lit (.int .i64 0), .lit (.int .i64 1)]], .agg [.lit (.int .i64 52), .lit (.int .i64 53), .agg [.lit (.int .i64 8), .lit (.int .i64 0), .lit (.int .i64 0), .lit (.int .i64 0), .lit (.int .i64 1)]], .agg [.lit (.int .i64 54), .lit (.int .i64 56), .agg [.lit (.int .i64 9), .lit (.int .i64 11), .lit (.int .i64 0), .lit (.int .i64 0), .lit (.int .i64 1)]], .agg [.lit (.int .i64 57), .lit (.int .i64 59), .agg [.lit (.int .i64 9), .lit (.int .i64 9), .lit (.int .i64 0), .lit (.int .i64 31), .lit (.int .i64 1)]], .agg [.lit (.int .i64 60), .lit (.int .i64 62), .agg [.lit (.int .i64 10), .lit (.int .i64 0), .lit (.int .i64 0), .lit (.int .i64 0), .lit (.int .i64 1)]], .agg [.lit (.int .i64 63), .lit (.int .i64 65), .agg [.lit (.int .i64 11), .lit (.int .i64 6), .lit (.int .i64 0), .lit (.int .i64 0), .lit (.int .i64 1)]], .agg [.lit (.int .i64 66), .lit (.int .i64 68), .agg [.lit (.int .i64 12), .lit (.int .i64 3), .lit (.int .i64 0), .lit (.int .i64 0), .lit (.int .i64 1)]], .agg [.lit (.int .i64 69), .lit (.int .i64 69), .agg [.lit (.int .i64 12), .lit (.int .i64 6), .lit (.int .i64 0), .lit (.int .i64 0), .lit (.int .i64 1)]]]
def laid_sallyport_alu_deeds {H : Type} : DataW H := .agg [.lit (.int .u8 0), .lit (.int .u8 0), .lit (.int .u8 0), .lit (.int .u8 0), .lit (.int .u8 0), .lit (.int .u8 0), .lit (.int .u8 0), .lit (.int .u8 0), .lit (.int .u8 0), .lit (.int .u8 0), .lit (.int .u8 0), .lit (.int .u8 0), .lit (.int .u8 0), .lit (.int .u8 0), .lit (.int .u8 0), .lit (.int .u8 0), .lit (.int .u8 0), .lit (.int .u8 0), .lit (.int .u8 0), .lit (.int .u8 0), .lit (.int .u8 0), .lit (.int .u8 0), .lit (.int .u8 1), .lit (.int .u8 4), .lit (.int .u8 3), .lit (.int .u8 5), .lit (.int .u8 6), .lit (.int .u8 7), .lit (.int .u8 8), .lit (.int .u8 9), .lit (.int .u8 10), .lit (.int .u8 129), .lit (.int .u8 136), .lit (.int .u8 137), .lit (.int .u8 138), .lit (.int .u8 1), .lit (.int .u8 2), .lit (.int .u8 8), .lit (.int .u8 4), .lit (.int .u8 3), .lit (.int .u8 5), .lit (.int .u8 9), .lit (.int .u8 10), .lit (.int .u8 6), .lit (.int .u8 7), .lit (.int .u8 129), .lit (.int .u8 130), .lit (.int .u8 136), .lit (.int .u8 137), .lit (.int .u8 138), .lit (.int .u8 0), .lit (.int .u8 0), .lit (.int .u8 0), .lit (.int .u8 0), .lit (.int .u8 0), .lit (.int .u8 0), .lit (.int .u8 0), .lit (.int .u8 0), .lit (.int .u8 0), .lit (.int .u8 0), .lit (.int .u8 0), .lit (.int .u8 0), .lit (.int .u8 0), .lit (.int .u8 0), .lit (.int .u8 0), .lit (.int .u8 0), .lit (.int .u8 0), .lit (.int .u8 0), .lit (.int .u8 0), .lit (.int .u8 0)]

/-- 'sallyportlaw5.AluBits': WHATEVER THE INPUT: true; the input reads as it did. -/
def aluBitsSpec : ChangeSpec := { name := "aluBits", fn := fun _ => fun
  | [d1, d2, d3] => { results := [.lit (.bool true)], args := [d1, d2, d3] }
  | _ => none }
def aluBitsRow : OpenClaim := { program := "ytbeehnfmhclbmabdoor", sum := "d5599560de2f8c3d10b2ca7285f13997b55d60038528c1d542cdd02209e9f8a4", func := "sallyport/sallyportlaw5.AluBits", spec := "aluBits", named := ["sallyport/alu.deeds", "sallyport/insn.groups"], apart := false, laid := [("sallyport/insn.groups", laid_sallyport_insn_groups), ("sallyport/alu.deeds", laid_sallyport_alu_deeds)] }
def AluBitsSaid : Prop := aluBitsRow.holds Tryd.pinned (OpenSpec.ofChange aluBitsSpec)

/-- ITS FALSE NEIGHBOUR: 'it returns false'. Refute it at one input. -/
def aluBitsWrong : ChangeSpec := { name := "aluBits", fn := fun _ => fun
  | [d1, d2, d3] => { results := [.lit (.bool false)], args := [d1, d2, d3] }
  | _ => none }
def AluBitsWrongFalsely : Prop := aluBitsRow.holds Tryd.pinned (OpenSpec.ofChange aluBitsWrong)

/- THE SECOND FORM. 'bulk': how many values and letters a reading holds, each counted each time it is reached (what is shared counts as often as it is met; a slice's spare places count too). A statement '..UptoSaid' is the law's where the arguments, and the package variables that the reading takes, are together of bulk at most 1048576: NARROWER than '..Said'. Prove '..Said' where nothing that the law and all that it calls make is longer than what came in: it says more and counts as full. Else prove '..UptoSaid'. A law counts once. -/
mutual
def uptoBulk {H : Type} : DataW H → Nat
  | .lit (.string bytes) => bytes.length + 1
  | .lit _ => 1
  | .nil => 1
  | .ptr d => uptoBulk d + 1
  | .slice elems spare => uptoBulkAll elems + uptoBulkAll spare + 1
  | .agg parts => uptoBulkAll parts + 1
  | .iface _ d => uptoBulk d + 1
  | .map entries => uptoBulkEntries entries + 1
  | .held _ => 1
def uptoBulkAll {H : Type} : List (DataW H) → Nat
  | [] => 0
  | d :: r => uptoBulk d + uptoBulkAll r
def uptoBulkEntries {H : Type} : List (Lit × DataW H) → Nat
  | [] => 0
  | x :: r => uptoBulkEntry x + uptoBulkEntries r
def uptoBulkEntry {H : Type} : Lit × DataW H → Nat
  | (.string bytes, d) => bytes.length + uptoBulk d + 1
  | (_, d) => uptoBulk d + 1
 end
def uptoSmall : (H : Type) → List (DataW H) → Bool := fun _ ds => decide (uptoBulkAll ds ≤ 1048576)
def OpenSpec.upto (s : _root_.Go.ChangeSpec) : _root_.Go.OpenSpec := { _root_.Go.OpenSpec.ofChange s with cond := some uptoSmall }

/-- 'sallyportlaw5.AluBits', WHERE WHAT IT READS IS OF BULK AT MOST 1048576: true; the input reads as it did. -/
def aluBitsUptoRow : OpenClaim := { program := "ytbeehnfmhclbmabdoor", sum := "d5599560de2f8c3d10b2ca7285f13997b55d60038528c1d542cdd02209e9f8a4", func := "sallyport/sallyportlaw5.AluBits", spec := "aluBits", named := ["sallyport/alu.deeds", "sallyport/insn.groups"], apart := false, laid := [("sallyport/insn.groups", laid_sallyport_insn_groups), ("sallyport/alu.deeds", laid_sallyport_alu_deeds)], narrowed := true }
def AluBitsUptoSaid : Prop := aluBitsUptoRow.holds Tryd.pinned (OpenSpec.upto aluBitsSpec)

end Rows
end Go.Proofs.YtbeehnfmhclbmabDoor
