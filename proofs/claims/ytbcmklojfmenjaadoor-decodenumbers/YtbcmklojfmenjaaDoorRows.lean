/-
  NARROWER THAN 'FOR EVERY INPUT', by the rows' own cells (each row's printed sentence says how): DecodeTells: laid · DecodeMade: laid · DecodeTurned: laid · DecodeIs: laid · DecodeNumbers: laid.
  DERIVED. THE GIVEN ROWS OF THIS SEAT. 5 by the template 'for every input the law returns true; each argument reads behind the call as it read before'; 0 by the template 'total and deterministic' (their statements: YtbcmklojfmenjaaDoorTotals.lean).
  GIVEN WITH THE SEED: the statements are not yours to turn. If you find one false, say at which input.
  Laid BY PROGRAM, IN A SANDBOX (cutbox-rows.mjs): the forced cells as the released guide's own fill.sh prints them over the translation 8eeb589a7df4328e… (all of the seat's roots in one cut). By AI agents, Wed Nov 11 2026. No macro, syntax, notation, axiom, sorry.
-/
import Derived.Test.YtbcmklojfmenjaaDoorChecked
import GoSem.Claim
import GoSem.ClaimJoined
import GoSem.ClaimMapViews
import Derived.JoinedTies
import Derived.KernelRfl
namespace Go.Proofs.YtbcmklojfmenjaaDoor
/- THE CELL 'sum', in the pinned program and in every row, IS THE sha256 OF THE DUMP (.gsa) THAT YtbcmklojfmenjaaDoorProg.lean LOADS. Nothing in Lean hashes anything: it is a label: what it is worth is what the hold of that sum in a sandbox is worth. -/
noncomputable def Tryd.pinned : Pinned := { name := "ytbcmklojfmenjaadoor", sum := "8eeb589a7df4328e9fadc295def7f16760bd7b3ca25f048f26bd28ace5b25cbd", checked := Tryd.checked }
namespace Rows
def none {H : Type} : Left H := { results := [], args := [] }

/- WHAT THE LISTED PACKAGE-LEVEL VARIABLES READ AS WHEN THE CALL BEGINS. Each datum BY PROGRAM (the guide's laid-datum.mjs) off the statement by which the dump's own 'gosem.cut.vars' lays the variable. In a bare row this is a premise. The card (YtbcmklojfmenjaaDoorCards.lean) ties it to the program's text. -/
def laid_sallyport_insn_groups {H : Type} : DataW H := .agg [.agg [.lit (.int .i64 1), .lit (.int .i64 2), .agg [.lit (.int .i64 1), .lit (.int .i64 1), .lit (.int .i64 (-2147483648)), .lit (.int .i64 2147479552), .lit (.int .i64 4096)]], .agg [.lit (.int .i64 3), .lit (.int .i64 3), .agg [.lit (.int .i64 1), .lit (.int .i64 1), .lit (.int .i64 (-1048576)), .lit (.int .i64 1048574), .lit (.int .i64 2)]], .agg [.lit (.int .i64 4), .lit (.int .i64 4), .agg [.lit (.int .i64 1), .lit (.int .i64 3), .lit (.int .i64 (-2048)), .lit (.int .i64 2047), .lit (.int .i64 1)]], .agg [.lit (.int .i64 5), .lit (.int .i64 10), .agg [.lit (.int .i64 2), .lit (.int .i64 6), .lit (.int .i64 (-4096)), .lit (.int .i64 4094), .lit (.int .i64 2)]], .agg [.lit (.int .i64 11), .lit (.int .i64 17), .agg [.lit (.int .i64 3), .lit (.int .i64 3), .lit (.int .i64 (-2048)), .lit (.int .i64 2047), .lit (.int .i64 1)]], .agg [.lit (.int .i64 18), .lit (.int .i64 21), .agg [.lit (.int .i64 4), .lit (.int .i64 6), .lit (.int .i64 (-2048)), .lit (.int .i64 2047), .lit (.int .i64 1)]], .agg [.lit (.int .i64 22), .lit (.int .i64 27), .agg [.lit (.int .i64 5), .lit (.int .i64 3), .lit (.int .i64 (-2048)), .lit (.int .i64 2047), .lit (.int .i64 1)]], .agg [.lit (.int .i64 28), .lit (.int .i64 30), .agg [.lit (.int .i64 5), .lit (.int .i64 3), .lit (.int .i64 0), .lit (.int .i64 63), .lit (.int .i64 1)]], .agg [.lit (.int .i64 31), .lit (.int .i64 31), .agg [.lit (.int .i64 5), .lit (.int .i64 3), .lit (.int .i64 (-2048)), .lit (.int .i64 2047), .lit (.int .i64 1)]], .agg [.lit (.int .i64 32), .lit (.int .i64 34), .agg [.lit (.int .i64 5), .lit (.int .i64 3), .lit (.int .i64 0), .lit (.int .i64 31), .lit (.int .i64 1)]], .agg [.lit (.int .i64 35), .lit (.int .i64 49), .agg [.lit (.int .i64 6), .lit (.int .i64 7), .lit (.int .i64 0), .lit (.int .i64 0), .lit (.int .i64 1)]], .agg [.lit (.int .i64 50), .lit (.int .i64 51), .agg [.lit (.int .i64 7), .lit (.int .i64 0), .lit (.int .i64 0), .lit (.int .i64 0), .lit (.int .i64 1)]], .agg [.lit (.int .i64 52), .lit (.int .i64 53), .agg [.lit (.int .i64 8), .lit (.int .i64 0), .lit (.int .i64 0), .lit (.int .i64 0), .lit (.int .i64 1)]], .agg [.lit (.int .i64 54), .lit (.int .i64 56), .agg [.lit (.int .i64 9), .lit (.int .i64 11), .lit (.int .i64 0), .lit (.int .i64 0), .lit (.int .i64 1)]], .agg [.lit (.int .i64 57), .lit (.int .i64 59), .agg [.lit (.int .i64 9), .lit (.int .i64 9), .lit (.int .i64 0), .lit (.int .i64 31), .lit (.int .i64 1)]], .agg [.lit (.int .i64 60), .lit (.int .i64 62), .agg [.lit (.int .i64 10), .lit (.int .i64 0), .lit (.int .i64 0), .lit (.int .i64 0), .lit (.int .i64 1)]], .agg [.lit (.int .i64 63), .lit (.int .i64 65), .agg [.lit (.int .i64 11), .lit (.int .i64 6), .lit (.int .i64 0), .lit (.int .i64 0), .lit (.int .i64 1)]], .agg [.lit (.int .i64 66), .lit (.int .i64 68), .agg [.lit (.int .i64 12), .lit (.int .i64 3), .lit (.int .i64 0), .lit (.int .i64 0), .lit (.int .i64 1)]], .agg [.lit (.int .i64 69), .lit (.int .i64 69), .agg [.lit (.int .i64 12), .lit (.int .i64 6), .lit (.int .i64 0), .lit (.int .i64 0), .lit (.int .i64 1)]]]
def laid_sallyport_decode_groups {H : Type} : DataW H := .agg [.agg [.lit (.int .u32 127), .lit (.int .i64 1), .lit (.int .i64 3)], .agg [.lit (.int .u32 28799), .lit (.int .i64 4), .lit (.int .i64 27)], .agg [.lit (.int .u32 4227887231), .lit (.int .i64 28), .lit (.int .i64 30)], .agg [.lit (.int .u32 28799), .lit (.int .i64 31), .lit (.int .i64 31)], .agg [.lit (.int .u32 4261441663), .lit (.int .i64 32), .lit (.int .i64 49)], .agg [.lit (.int .u32 4294967295), .lit (.int .i64 50), .lit (.int .i64 53)], .agg [.lit (.int .u32 28799), .lit (.int .i64 54), .lit (.int .i64 59)], .agg [.lit (.int .u32 4294967295), .lit (.int .i64 60), .lit (.int .i64 62)], .agg [.lit (.int .u32 4261445631), .lit (.int .i64 63), .lit (.int .i64 65)], .agg [.lit (.int .u32 4293947519), .lit (.int .i64 66), .lit (.int .i64 68)], .agg [.lit (.int .u32 4261445631), .lit (.int .i64 69), .lit (.int .i64 69)]]
def laid_sallyport_decode_heads {H : Type} : DataW H := .agg [.lit (.int .u32 0), .lit (.int .u32 55), .lit (.int .u32 23), .lit (.int .u32 111), .lit (.int .u32 103), .lit (.int .u32 99), .lit (.int .u32 4195), .lit (.int .u32 16483), .lit (.int .u32 20579), .lit (.int .u32 24675), .lit (.int .u32 28771), .lit (.int .u32 3), .lit (.int .u32 4099), .lit (.int .u32 8195), .lit (.int .u32 12291), .lit (.int .u32 16387), .lit (.int .u32 20483), .lit (.int .u32 24579), .lit (.int .u32 35), .lit (.int .u32 4131), .lit (.int .u32 8227), .lit (.int .u32 12323), .lit (.int .u32 19), .lit (.int .u32 8211), .lit (.int .u32 12307), .lit (.int .u32 16403), .lit (.int .u32 24595), .lit (.int .u32 28691), .lit (.int .u32 4115), .lit (.int .u32 20499), .lit (.int .u32 1073762323), .lit (.int .u32 27), .lit (.int .u32 4123), .lit (.int .u32 20507), .lit (.int .u32 1073762331), .lit (.int .u32 51), .lit (.int .u32 1073741875), .lit (.int .u32 4147), .lit (.int .u32 8243), .lit (.int .u32 12339), .lit (.int .u32 16435), .lit (.int .u32 20531), .lit (.int .u32 1073762355), .lit (.int .u32 24627), .lit (.int .u32 28723), .lit (.int .u32 59), .lit (.int .u32 1073741883), .lit (.int .u32 4155), .lit (.int .u32 20539), .lit (.int .u32 1073762363), .lit (.int .u32 267386895), .lit (.int .u32 4111), .lit (.int .u32 115), .lit (.int .u32 1048691), .lit (.int .u32 4211), .lit (.int .u32 8307), .lit (.int .u32 12403), .lit (.int .u32 20595), .lit (.int .u32 24691), .lit (.int .u32 28787), .lit (.int .u32 807403635), .lit (.int .u32 270532723), .lit (.int .u32 273678451), .lit (.int .u32 301990003), .lit (.int .u32 570425459), .lit (.int .u32 1644167283), .lit (.int .u32 1744846963), .lit (.int .u32 1811955827), .lit (.int .u32 1747992691), .lit (.int .u32 1845510259)]

/-- 'sallyportlaw3.DecodeTells': WHATEVER THE INPUT: true; the input reads as it did. -/
def decodeTellsSpec : ChangeSpec := { name := "decodeTells", fn := fun _ => fun
  | [d1, d2] => { results := [.lit (.bool true)], args := [d1, d2] }
  | _ => none }
def decodeTellsRow : OpenClaim := { program := "ytbcmklojfmenjaadoor", sum := "8eeb589a7df4328e9fadc295def7f16760bd7b3ca25f048f26bd28ace5b25cbd", func := "sallyport/sallyportlaw3.DecodeTells", spec := "decodeTells", named := ["sallyport/decode.groups", "sallyport/decode.heads", "sallyport/insn.groups"], apart := false, laid := [("sallyport/insn.groups", laid_sallyport_insn_groups), ("sallyport/decode.groups", laid_sallyport_decode_groups), ("sallyport/decode.heads", laid_sallyport_decode_heads)] }
def DecodeTellsSaid : Prop := decodeTellsRow.holds Tryd.pinned (OpenSpec.ofChange decodeTellsSpec)

/-- ITS FALSE NEIGHBOUR: 'it returns false'. Refute it at one input. -/
def decodeTellsWrong : ChangeSpec := { name := "decodeTells", fn := fun _ => fun
  | [d1, d2] => { results := [.lit (.bool false)], args := [d1, d2] }
  | _ => none }
def DecodeTellsWrongFalsely : Prop := decodeTellsRow.holds Tryd.pinned (OpenSpec.ofChange decodeTellsWrong)

/-- 'sallyportlaw3.DecodeMade': WHATEVER THE INPUT: true; the input reads as it did. -/
def decodeMadeSpec : ChangeSpec := { name := "decodeMade", fn := fun _ => fun
  | [d] => { results := [.lit (.bool true)], args := [d] }
  | _ => none }
def decodeMadeRow : OpenClaim := { program := "ytbcmklojfmenjaadoor", sum := "8eeb589a7df4328e9fadc295def7f16760bd7b3ca25f048f26bd28ace5b25cbd", func := "sallyport/sallyportlaw3.DecodeMade", spec := "decodeMade", named := ["sallyport/decode.groups", "sallyport/decode.heads", "sallyport/insn.groups"], apart := false, laid := [("sallyport/insn.groups", laid_sallyport_insn_groups), ("sallyport/decode.groups", laid_sallyport_decode_groups), ("sallyport/decode.heads", laid_sallyport_decode_heads)] }
def DecodeMadeSaid : Prop := decodeMadeRow.holds Tryd.pinned (OpenSpec.ofChange decodeMadeSpec)

/-- ITS FALSE NEIGHBOUR: 'it returns false'. Refute it at one input. -/
def decodeMadeWrong : ChangeSpec := { name := "decodeMade", fn := fun _ => fun
  | [d] => { results := [.lit (.bool false)], args := [d] }
  | _ => none }
def DecodeMadeWrongFalsely : Prop := decodeMadeRow.holds Tryd.pinned (OpenSpec.ofChange decodeMadeWrong)

/-- 'sallyportlaw3.DecodeTurned': WHATEVER THE INPUT: true; the input reads as it did. -/
def decodeTurnedSpec : ChangeSpec := { name := "decodeTurned", fn := fun _ => fun
  | [d1, d2] => { results := [.lit (.bool true)], args := [d1, d2] }
  | _ => none }
def decodeTurnedRow : OpenClaim := { program := "ytbcmklojfmenjaadoor", sum := "8eeb589a7df4328e9fadc295def7f16760bd7b3ca25f048f26bd28ace5b25cbd", func := "sallyport/sallyportlaw3.DecodeTurned", spec := "decodeTurned", named := ["sallyport/decode.groups", "sallyport/decode.heads", "sallyport/insn.groups"], apart := false, laid := [("sallyport/insn.groups", laid_sallyport_insn_groups), ("sallyport/decode.groups", laid_sallyport_decode_groups), ("sallyport/decode.heads", laid_sallyport_decode_heads)] }
def DecodeTurnedSaid : Prop := decodeTurnedRow.holds Tryd.pinned (OpenSpec.ofChange decodeTurnedSpec)

/-- ITS FALSE NEIGHBOUR: 'it returns false'. Refute it at one input. -/
def decodeTurnedWrong : ChangeSpec := { name := "decodeTurned", fn := fun _ => fun
  | [d1, d2] => { results := [.lit (.bool false)], args := [d1, d2] }
  | _ => none }
def DecodeTurnedWrongFalsely : Prop := decodeTurnedRow.holds Tryd.pinned (OpenSpec.ofChange decodeTurnedWrong)

/-- 'sallyportlaw3.DecodeIs': WHATEVER THE INPUT: true; the input reads as it did. -/
def decodeIsSpec : ChangeSpec := { name := "decodeIs", fn := fun _ => fun
  | [d] => { results := [.lit (.bool true)], args := [d] }
  | _ => none }
def decodeIsRow : OpenClaim := { program := "ytbcmklojfmenjaadoor", sum := "8eeb589a7df4328e9fadc295def7f16760bd7b3ca25f048f26bd28ace5b25cbd", func := "sallyport/sallyportlaw3.DecodeIs", spec := "decodeIs", named := ["sallyport/decode.groups", "sallyport/decode.heads", "sallyport/insn.groups"], apart := false, laid := [("sallyport/insn.groups", laid_sallyport_insn_groups), ("sallyport/decode.groups", laid_sallyport_decode_groups), ("sallyport/decode.heads", laid_sallyport_decode_heads)] }
def DecodeIsSaid : Prop := decodeIsRow.holds Tryd.pinned (OpenSpec.ofChange decodeIsSpec)

/-- ITS FALSE NEIGHBOUR: 'it returns false'. Refute it at one input. -/
def decodeIsWrong : ChangeSpec := { name := "decodeIs", fn := fun _ => fun
  | [d] => { results := [.lit (.bool false)], args := [d] }
  | _ => none }
def DecodeIsWrongFalsely : Prop := decodeIsRow.holds Tryd.pinned (OpenSpec.ofChange decodeIsWrong)

/-- 'sallyportlaw3.DecodeNumbers': WHATEVER THE INPUT: true; the input reads as it did. -/
def decodeNumbersSpec : ChangeSpec := { name := "decodeNumbers", fn := fun _ => fun
  | [d1, d2, d3] => { results := [.lit (.bool true)], args := [d1, d2, d3] }
  | _ => none }
def decodeNumbersRow : OpenClaim := { program := "ytbcmklojfmenjaadoor", sum := "8eeb589a7df4328e9fadc295def7f16760bd7b3ca25f048f26bd28ace5b25cbd", func := "sallyport/sallyportlaw3.DecodeNumbers", spec := "decodeNumbers", named := ["sallyport/decode.groups", "sallyport/decode.heads", "sallyport/insn.groups"], apart := false, laid := [("sallyport/insn.groups", laid_sallyport_insn_groups), ("sallyport/decode.groups", laid_sallyport_decode_groups), ("sallyport/decode.heads", laid_sallyport_decode_heads)] }
def DecodeNumbersSaid : Prop := decodeNumbersRow.holds Tryd.pinned (OpenSpec.ofChange decodeNumbersSpec)

/-- ITS FALSE NEIGHBOUR: 'it returns false'. Refute it at one input. -/
def decodeNumbersWrong : ChangeSpec := { name := "decodeNumbers", fn := fun _ => fun
  | [d1, d2, d3] => { results := [.lit (.bool false)], args := [d1, d2, d3] }
  | _ => none }
def DecodeNumbersWrongFalsely : Prop := decodeNumbersRow.holds Tryd.pinned (OpenSpec.ofChange decodeNumbersWrong)

/- THE SECOND FORM. 'bulk': how many values and letters a reading holds, each counted each time it is reached (what is shared counts as often as it is met; a slice's spare places count too). A statement '..UptoSaid' is the law's where the arguments, and the package variables that the reading takes, are together of bulk at most 1048576: NARROWER than '..Said'. Prove '..Said' where nothing that the law and all that it calls make is longer than what came in: it says more and counts as full. Else prove '..UptoSaid'. A law counts once. -/
mutual
def uptoBulk {H : Type} : DataW H → Nat
  | .lit (.string bytes) => bytes.length + 1
  | .lit _ => 1
  | .nil => 1
  | .ptr d => uptoBulk d + 1
  | .slice elems spare => uptoBulkAll elems + uptoBulkAll spare + 1
  | .agg parts => uptoBulkAll parts + 1
  | .iface _ d => uptoBulk d + 1
  | .map entries => uptoBulkEntries entries + 1
  | .held _ => 1
def uptoBulkAll {H : Type} : List (DataW H) → Nat
  | [] => 0
  | d :: r => uptoBulk d + uptoBulkAll r
def uptoBulkEntries {H : Type} : List (Lit × DataW H) → Nat
  | [] => 0
  | x :: r => uptoBulkEntry x + uptoBulkEntries r
def uptoBulkEntry {H : Type} : Lit × DataW H → Nat
  | (.string bytes, d) => bytes.length + uptoBulk d + 1
  | (_, d) => uptoBulk d + 1
 end
def uptoSmall : (H : Type) → List (DataW H) → Bool := fun _ ds => decide (uptoBulkAll ds ≤ 1048576)
def OpenSpec.upto (s : _root_.Go.ChangeSpec) : _root_.Go.OpenSpec := { _root_.Go.OpenSpec.ofChange s with cond := some uptoSmall }

/-- 'sallyportlaw3.DecodeTells', WHERE WHAT IT READS IS OF BULK AT MOST 1048576: true; the input reads as it did. -/
def decodeTellsUptoRow : OpenClaim := { program := "ytbcmklojfmenjaadoor", sum := "8eeb589a7df4328e9fadc295def7f16760bd7b3ca25f048f26bd28ace5b25cbd", func := "sallyport/sallyportlaw3.DecodeTells", spec := "decodeTells", named := ["sallyport/decode.groups", "sallyport/decode.heads", "sallyport/insn.groups"], apart := false, laid := [("sallyport/insn.groups", laid_sallyport_insn_groups), ("sallyport/decode.groups", laid_sallyport_decode_groups), ("sallyport/decode.heads", laid_sallyport_decode_heads)], narrowed := true }
def DecodeTellsUptoSaid : Prop := decodeTellsUptoRow.holds Tryd.pinned (OpenSpec.upto decodeTellsSpec)

/-- 'sallyportlaw3.DecodeMade', WHERE WHAT IT READS IS OF BULK AT MOST 1048576: true; the input reads as it did. -/
def decodeMadeUptoRow : OpenClaim := { program := "ytbcmklojfmenjaadoor", sum := "8eeb589a7df4328e9fadc295def7f16760bd7b3ca25f048f26bd28ace5b25cbd", func := "sallyport/sallyportlaw3.DecodeMade", spec := "decodeMade", named := ["sallyport/decode.groups", "sallyport/decode.heads", "sallyport/insn.groups"], apart := false, laid := [("sallyport/insn.groups", laid_sallyport_insn_groups), ("sallyport/decode.groups", laid_sallyport_decode_groups), ("sallyport/decode.heads", laid_sallyport_decode_heads)], narrowed := true }
def DecodeMadeUptoSaid : Prop := decodeMadeUptoRow.holds Tryd.pinned (OpenSpec.upto decodeMadeSpec)

/-- 'sallyportlaw3.DecodeTurned', WHERE WHAT IT READS IS OF BULK AT MOST 1048576: true; the input reads as it did. -/
def decodeTurnedUptoRow : OpenClaim := { program := "ytbcmklojfmenjaadoor", sum := "8eeb589a7df4328e9fadc295def7f16760bd7b3ca25f048f26bd28ace5b25cbd", func := "sallyport/sallyportlaw3.DecodeTurned", spec := "decodeTurned", named := ["sallyport/decode.groups", "sallyport/decode.heads", "sallyport/insn.groups"], apart := false, laid := [("sallyport/insn.groups", laid_sallyport_insn_groups), ("sallyport/decode.groups", laid_sallyport_decode_groups), ("sallyport/decode.heads", laid_sallyport_decode_heads)], narrowed := true }
def DecodeTurnedUptoSaid : Prop := decodeTurnedUptoRow.holds Tryd.pinned (OpenSpec.upto decodeTurnedSpec)

/-- 'sallyportlaw3.DecodeIs', WHERE WHAT IT READS IS OF BULK AT MOST 1048576: true; the input reads as it did. -/
def decodeIsUptoRow : OpenClaim := { program := "ytbcmklojfmenjaadoor", sum := "8eeb589a7df4328e9fadc295def7f16760bd7b3ca25f048f26bd28ace5b25cbd", func := "sallyport/sallyportlaw3.DecodeIs", spec := "decodeIs", named := ["sallyport/decode.groups", "sallyport/decode.heads", "sallyport/insn.groups"], apart := false, laid := [("sallyport/insn.groups", laid_sallyport_insn_groups), ("sallyport/decode.groups", laid_sallyport_decode_groups), ("sallyport/decode.heads", laid_sallyport_decode_heads)], narrowed := true }
def DecodeIsUptoSaid : Prop := decodeIsUptoRow.holds Tryd.pinned (OpenSpec.upto decodeIsSpec)

/-- 'sallyportlaw3.DecodeNumbers', WHERE WHAT IT READS IS OF BULK AT MOST 1048576: true; the input reads as it did. -/
def decodeNumbersUptoRow : OpenClaim := { program := "ytbcmklojfmenjaadoor", sum := "8eeb589a7df4328e9fadc295def7f16760bd7b3ca25f048f26bd28ace5b25cbd", func := "sallyport/sallyportlaw3.DecodeNumbers", spec := "decodeNumbers", named := ["sallyport/decode.groups", "sallyport/decode.heads", "sallyport/insn.groups"], apart := false, laid := [("sallyport/insn.groups", laid_sallyport_insn_groups), ("sallyport/decode.groups", laid_sallyport_decode_groups), ("sallyport/decode.heads", laid_sallyport_decode_heads)], narrowed := true }
def DecodeNumbersUptoSaid : Prop := decodeNumbersUptoRow.holds Tryd.pinned (OpenSpec.upto decodeNumbersSpec)

end Rows
end Go.Proofs.YtbcmklojfmenjaaDoor
