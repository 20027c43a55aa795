/-
  No cell of these rows narrows 'for every input' (looked for: loops, veiled, ifaces, maps, wideKeys, modest, calm, conditions, laid).
  DERIVED. THE GIVEN ROWS OF THIS SEAT. 5 by the template 'for every input the law returns true; each argument reads behind the call as it read before'; 0 by the template 'total and deterministic' (their statements: YtagfhfmaonoehaaTotals.lean).
  GIVEN WITH THE SEED: the statements are not yours to turn. If you find one false, say at which input.
  Laid BY PROGRAM, IN A SANDBOX (cutbox-rows.mjs): the forced cells as the released guide's own fill.sh prints them over the translation 6cef19e3ca1458ee… (all of the seat's roots in one cut). By AI agents, Wed Nov 11 2026. No macro, syntax, notation, axiom, sorry.
-/
import Derived.Test.YtagfhfmaonoehaaChecked
import GoSem.Claim
import GoSem.ClaimJoined
import GoSem.ClaimMapViews
import Derived.JoinedTies
import Derived.KernelRfl
namespace Go.Proofs.Ytagfhfmaonoehaa
/- THE CELL 'sum', in the pinned program and in every row, IS THE sha256 OF THE DUMP (.gsa) THAT YtagfhfmaonoehaaProg.lean LOADS. Nothing in Lean hashes anything: it is a label: what it is worth is what the hold of that sum in a sandbox is worth. -/
noncomputable def Try.pinned : Pinned := { name := "ytagfhfmaonoehaa", sum := "6cef19e3ca1458ee615ac135b48e3aa7200ec9df96c9b17af02e6d85099c94eb", checked := Try.checked }
namespace Rows
def none {H : Type} : Left H := { results := [], args := [] }

/-- 'sallyportlaw11.WalkTells': WHATEVER THE INPUT: true; the input reads as it did. -/
def walkTellsSpec : ChangeSpec := { name := "walkTells", fn := fun _ => fun
  | [d1, d2, d3, d4, d5] => { results := [.lit (.bool true)], args := [d1, d2, d3, d4, d5] }
  | _ => none }
def walkTellsRow : OpenClaim := { program := "ytagfhfmaonoehaa", sum := "6cef19e3ca1458ee615ac135b48e3aa7200ec9df96c9b17af02e6d85099c94eb", func := "sallyport/sallyportlaw11.WalkTells", spec := "walkTells", apart := false }
def WalkTellsSaid : Prop := walkTellsRow.holds Try.pinned (OpenSpec.ofChange walkTellsSpec)

/-- ITS FALSE NEIGHBOUR: 'it returns false'. Refute it at one input. -/
def walkTellsWrong : ChangeSpec := { name := "walkTells", fn := fun _ => fun
  | [d1, d2, d3, d4, d5] => { results := [.lit (.bool false)], args := [d1, d2, d3, d4, d5] }
  | _ => none }
def WalkTellsWrongFalsely : Prop := walkTellsRow.holds Try.pinned (OpenSpec.ofChange walkTellsWrong)

/-- 'sallyportlaw11.WalkLaid': WHATEVER THE INPUT: true; the input reads as it did. -/
def walkLaidSpec : ChangeSpec := { name := "walkLaid", fn := fun _ => fun
  | [d1, d2] => { results := [.lit (.bool true)], args := [d1, d2] }
  | _ => none }
def walkLaidRow : OpenClaim := { program := "ytagfhfmaonoehaa", sum := "6cef19e3ca1458ee615ac135b48e3aa7200ec9df96c9b17af02e6d85099c94eb", func := "sallyport/sallyportlaw11.WalkLaid", spec := "walkLaid", apart := false }
def WalkLaidSaid : Prop := walkLaidRow.holds Try.pinned (OpenSpec.ofChange walkLaidSpec)

/-- ITS FALSE NEIGHBOUR: 'it returns false'. Refute it at one input. -/
def walkLaidWrong : ChangeSpec := { name := "walkLaid", fn := fun _ => fun
  | [d1, d2] => { results := [.lit (.bool false)], args := [d1, d2] }
  | _ => none }
def WalkLaidWrongFalsely : Prop := walkLaidRow.holds Try.pinned (OpenSpec.ofChange walkLaidWrong)

/-- 'sallyportlaw11.WalkGreat': WHATEVER THE INPUT: true; the input reads as it did. -/
def walkGreatSpec : ChangeSpec := { name := "walkGreat", fn := fun _ => fun
  | [d1, d2, d3] => { results := [.lit (.bool true)], args := [d1, d2, d3] }
  | _ => none }
def walkGreatRow : OpenClaim := { program := "ytagfhfmaonoehaa", sum := "6cef19e3ca1458ee615ac135b48e3aa7200ec9df96c9b17af02e6d85099c94eb", func := "sallyport/sallyportlaw11.WalkGreat", spec := "walkGreat", apart := false }
def WalkGreatSaid : Prop := walkGreatRow.holds Try.pinned (OpenSpec.ofChange walkGreatSpec)

/-- ITS FALSE NEIGHBOUR: 'it returns false'. Refute it at one input. -/
def walkGreatWrong : ChangeSpec := { name := "walkGreat", fn := fun _ => fun
  | [d1, d2, d3] => { results := [.lit (.bool false)], args := [d1, d2, d3] }
  | _ => none }
def WalkGreatWrongFalsely : Prop := walkGreatRow.holds Try.pinned (OpenSpec.ofChange walkGreatWrong)

/-- 'sallyportlaw11.WalkNone': WHATEVER THE INPUT: true; the input reads as it did. -/
def walkNoneSpec : ChangeSpec := { name := "walkNone", fn := fun _ => fun
  | [d1, d2] => { results := [.lit (.bool true)], args := [d1, d2] }
  | _ => none }
def walkNoneRow : OpenClaim := { program := "ytagfhfmaonoehaa", sum := "6cef19e3ca1458ee615ac135b48e3aa7200ec9df96c9b17af02e6d85099c94eb", func := "sallyport/sallyportlaw11.WalkNone", spec := "walkNone", apart := false }
def WalkNoneSaid : Prop := walkNoneRow.holds Try.pinned (OpenSpec.ofChange walkNoneSpec)

/-- ITS FALSE NEIGHBOUR: 'it returns false'. Refute it at one input. -/
def walkNoneWrong : ChangeSpec := { name := "walkNone", fn := fun _ => fun
  | [d1, d2] => { results := [.lit (.bool false)], args := [d1, d2] }
  | _ => none }
def WalkNoneWrongFalsely : Prop := walkNoneRow.holds Try.pinned (OpenSpec.ofChange walkNoneWrong)

/-- 'sallyportlaw11.WalkPointers': WHATEVER THE INPUT: true; the input reads as it did. -/
def walkPointersSpec : ChangeSpec := { name := "walkPointers", fn := fun _ => fun
  | [d1, d2, d3] => { results := [.lit (.bool true)], args := [d1, d2, d3] }
  | _ => none }
def walkPointersRow : OpenClaim := { program := "ytagfhfmaonoehaa", sum := "6cef19e3ca1458ee615ac135b48e3aa7200ec9df96c9b17af02e6d85099c94eb", func := "sallyport/sallyportlaw11.WalkPointers", spec := "walkPointers", apart := false }
def WalkPointersSaid : Prop := walkPointersRow.holds Try.pinned (OpenSpec.ofChange walkPointersSpec)

/-- ITS FALSE NEIGHBOUR: 'it returns false'. Refute it at one input. -/
def walkPointersWrong : ChangeSpec := { name := "walkPointers", fn := fun _ => fun
  | [d1, d2, d3] => { results := [.lit (.bool false)], args := [d1, d2, d3] }
  | _ => none }
def WalkPointersWrongFalsely : Prop := walkPointersRow.holds Try.pinned (OpenSpec.ofChange walkPointersWrong)

/- THE SECOND FORM. 'bulk': how many values and letters a reading holds, each counted each time it is reached (what is shared counts as often as it is met; a slice's spare places count too). A statement '..UptoSaid' is the law's where the arguments, and the package variables that the reading takes, are together of bulk at most 1048576: NARROWER than '..Said'. Prove '..Said' where nothing that the law and all that it calls make is longer than what came in: it says more and counts as full. Else prove '..UptoSaid'. A law counts once. -/
mutual
def uptoBulk {H : Type} : DataW H → Nat
  | .lit (.string bytes) => bytes.length + 1
  | .lit _ => 1
  | .nil => 1
  | .ptr d => uptoBulk d + 1
  | .slice elems spare => uptoBulkAll elems + uptoBulkAll spare + 1
  | .agg parts => uptoBulkAll parts + 1
  | .iface _ d => uptoBulk d + 1
  | .map entries => uptoBulkEntries entries + 1
  | .held _ => 1
def uptoBulkAll {H : Type} : List (DataW H) → Nat
  | [] => 0
  | d :: r => uptoBulk d + uptoBulkAll r
def uptoBulkEntries {H : Type} : List (Lit × DataW H) → Nat
  | [] => 0
  | x :: r => uptoBulkEntry x + uptoBulkEntries r
def uptoBulkEntry {H : Type} : Lit × DataW H → Nat
  | (.string bytes, d) => bytes.length + uptoBulk d + 1
  | (_, d) => uptoBulk d + 1
 end
def uptoSmall : (H : Type) → List (DataW H) → Bool := fun _ ds => decide (uptoBulkAll ds ≤ 1048576)
def OpenSpec.upto (s : _root_.Go.ChangeSpec) : _root_.Go.OpenSpec := { _root_.Go.OpenSpec.ofChange s with cond := some uptoSmall }

/-- 'sallyportlaw11.WalkTells', WHERE WHAT IT READS IS OF BULK AT MOST 1048576: true; the input reads as it did. -/
def walkTellsUptoRow : OpenClaim := { program := "ytagfhfmaonoehaa", sum := "6cef19e3ca1458ee615ac135b48e3aa7200ec9df96c9b17af02e6d85099c94eb", func := "sallyport/sallyportlaw11.WalkTells", spec := "walkTells", apart := false, narrowed := true }
def WalkTellsUptoSaid : Prop := walkTellsUptoRow.holds Try.pinned (OpenSpec.upto walkTellsSpec)

/-- 'sallyportlaw11.WalkLaid', WHERE WHAT IT READS IS OF BULK AT MOST 1048576: true; the input reads as it did. -/
def walkLaidUptoRow : OpenClaim := { program := "ytagfhfmaonoehaa", sum := "6cef19e3ca1458ee615ac135b48e3aa7200ec9df96c9b17af02e6d85099c94eb", func := "sallyport/sallyportlaw11.WalkLaid", spec := "walkLaid", apart := false, narrowed := true }
def WalkLaidUptoSaid : Prop := walkLaidUptoRow.holds Try.pinned (OpenSpec.upto walkLaidSpec)

/-- 'sallyportlaw11.WalkGreat', WHERE WHAT IT READS IS OF BULK AT MOST 1048576: true; the input reads as it did. -/
def walkGreatUptoRow : OpenClaim := { program := "ytagfhfmaonoehaa", sum := "6cef19e3ca1458ee615ac135b48e3aa7200ec9df96c9b17af02e6d85099c94eb", func := "sallyport/sallyportlaw11.WalkGreat", spec := "walkGreat", apart := false, narrowed := true }
def WalkGreatUptoSaid : Prop := walkGreatUptoRow.holds Try.pinned (OpenSpec.upto walkGreatSpec)

/-- 'sallyportlaw11.WalkNone', WHERE WHAT IT READS IS OF BULK AT MOST 1048576: true; the input reads as it did. -/
def walkNoneUptoRow : OpenClaim := { program := "ytagfhfmaonoehaa", sum := "6cef19e3ca1458ee615ac135b48e3aa7200ec9df96c9b17af02e6d85099c94eb", func := "sallyport/sallyportlaw11.WalkNone", spec := "walkNone", apart := false, narrowed := true }
def WalkNoneUptoSaid : Prop := walkNoneUptoRow.holds Try.pinned (OpenSpec.upto walkNoneSpec)

/-- 'sallyportlaw11.WalkPointers', WHERE WHAT IT READS IS OF BULK AT MOST 1048576: true; the input reads as it did. -/
def walkPointersUptoRow : OpenClaim := { program := "ytagfhfmaonoehaa", sum := "6cef19e3ca1458ee615ac135b48e3aa7200ec9df96c9b17af02e6d85099c94eb", func := "sallyport/sallyportlaw11.WalkPointers", spec := "walkPointers", apart := false, narrowed := true }
def WalkPointersUptoSaid : Prop := walkPointersUptoRow.holds Try.pinned (OpenSpec.upto walkPointersSpec)

end Rows
end Go.Proofs.Ytagfhfmaonoehaa
