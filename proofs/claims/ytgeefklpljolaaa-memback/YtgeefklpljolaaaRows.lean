/-
  No cell of these rows narrows 'for every input' (looked for: loops, veiled, ifaces, maps, wideKeys, modest, calm, conditions, laid).
  DERIVED. THE GIVEN ROWS OF THIS SEAT. 4 by the template 'for every input the law returns true; each argument reads behind the call as it read before'; 0 by the template 'total and deterministic' (their statements: YtgeefklpljolaaaTotals.lean).
  GIVEN WITH THE SEED: the statements are not yours to turn. If you find one false, say at which input.
  Laid BY PROGRAM, IN A SANDBOX (cutbox-rows.mjs): the forced cells as the released guide's own fill.sh prints them over the translation ede05e5d3e52aa55… (all of the seat's roots in one cut). By AI agents, Wed Nov 11 2026. No macro, syntax, notation, axiom, sorry.
-/
import Derived.Test.YtgeefklpljolaaaChecked
import GoSem.Claim
import GoSem.ClaimJoined
import GoSem.ClaimMapViews
import Derived.JoinedTies
import Derived.KernelRfl
namespace Go.Proofs.Ytgeefklpljolaaa
/- THE CELL 'sum', in the pinned program and in every row, IS THE sha256 OF THE DUMP (.gsa) THAT YtgeefklpljolaaaProg.lean LOADS. Nothing in Lean hashes anything: it is a label: what it is worth is what the hold of that sum in a sandbox is worth. -/
noncomputable def Try.pinned : Pinned := { name := "ytgeefklpljolaaa", sum := "ede05e5d3e52aa553c58177ae5210e0539d9ccf661e0d0e3c7f61bad8290a39c", checked := Try.checked }
namespace Rows
def none {H : Type} : Left H := { results := [], args := [] }

/-- 'sallyportlaw6.MemPlays': WHATEVER THE INPUT: true; the input reads as it did. -/
def memPlaysSpec : ChangeSpec := { name := "memPlays", fn := fun _ => fun
  | [d1, d2] => { results := [.lit (.bool true)], args := [d1, d2] }
  | _ => none }
def memPlaysRow : OpenClaim := { program := "ytgeefklpljolaaa", sum := "ede05e5d3e52aa553c58177ae5210e0539d9ccf661e0d0e3c7f61bad8290a39c", func := "sallyport/sallyportlaw6.MemPlays", spec := "memPlays", apart := false }
def MemPlaysSaid : Prop := memPlaysRow.holds Try.pinned (OpenSpec.ofChange memPlaysSpec)

/-- ITS FALSE NEIGHBOUR: 'it returns false'. Refute it at one input. -/
def memPlaysWrong : ChangeSpec := { name := "memPlays", fn := fun _ => fun
  | [d1, d2] => { results := [.lit (.bool false)], args := [d1, d2] }
  | _ => none }
def MemPlaysWrongFalsely : Prop := memPlaysRow.holds Try.pinned (OpenSpec.ofChange memPlaysWrong)

/-- 'sallyportlaw6.MemBack': WHATEVER THE INPUT: true; the input reads as it did. -/
def memBackSpec : ChangeSpec := { name := "memBack", fn := fun _ => fun
  | [d1, d2, d3] => { results := [.lit (.bool true)], args := [d1, d2, d3] }
  | _ => none }
def memBackRow : OpenClaim := { program := "ytgeefklpljolaaa", sum := "ede05e5d3e52aa553c58177ae5210e0539d9ccf661e0d0e3c7f61bad8290a39c", func := "sallyport/sallyportlaw6.MemBack", spec := "memBack", apart := false }
def MemBackSaid : Prop := memBackRow.holds Try.pinned (OpenSpec.ofChange memBackSpec)

/-- ITS FALSE NEIGHBOUR: 'it returns false'. Refute it at one input. -/
def memBackWrong : ChangeSpec := { name := "memBack", fn := fun _ => fun
  | [d1, d2, d3] => { results := [.lit (.bool false)], args := [d1, d2, d3] }
  | _ => none }
def MemBackWrongFalsely : Prop := memBackRow.holds Try.pinned (OpenSpec.ofChange memBackWrong)

/-- 'sallyportlaw6.MemLays': WHATEVER THE INPUT: true; the input reads as it did. -/
def memLaysSpec : ChangeSpec := { name := "memLays", fn := fun _ => fun
  | [d1, d2] => { results := [.lit (.bool true)], args := [d1, d2] }
  | _ => none }
def memLaysRow : OpenClaim := { program := "ytgeefklpljolaaa", sum := "ede05e5d3e52aa553c58177ae5210e0539d9ccf661e0d0e3c7f61bad8290a39c", func := "sallyport/sallyportlaw6.MemLays", spec := "memLays", apart := false }
def MemLaysSaid : Prop := memLaysRow.holds Try.pinned (OpenSpec.ofChange memLaysSpec)

/-- ITS FALSE NEIGHBOUR: 'it returns false'. Refute it at one input. -/
def memLaysWrong : ChangeSpec := { name := "memLays", fn := fun _ => fun
  | [d1, d2] => { results := [.lit (.bool false)], args := [d1, d2] }
  | _ => none }
def MemLaysWrongFalsely : Prop := memLaysRow.holds Try.pinned (OpenSpec.ofChange memLaysWrong)

/-- 'sallyportlaw6.MemCodes': WHATEVER THE INPUT: true; the input reads as it did. -/
def memCodesSpec : ChangeSpec := { name := "memCodes", fn := fun _ => fun
  | [d1, d2] => { results := [.lit (.bool true)], args := [d1, d2] }
  | _ => none }
def memCodesRow : OpenClaim := { program := "ytgeefklpljolaaa", sum := "ede05e5d3e52aa553c58177ae5210e0539d9ccf661e0d0e3c7f61bad8290a39c", func := "sallyport/sallyportlaw6.MemCodes", spec := "memCodes", apart := false }
def MemCodesSaid : Prop := memCodesRow.holds Try.pinned (OpenSpec.ofChange memCodesSpec)

/-- ITS FALSE NEIGHBOUR: 'it returns false'. Refute it at one input. -/
def memCodesWrong : ChangeSpec := { name := "memCodes", fn := fun _ => fun
  | [d1, d2] => { results := [.lit (.bool false)], args := [d1, d2] }
  | _ => none }
def MemCodesWrongFalsely : Prop := memCodesRow.holds Try.pinned (OpenSpec.ofChange memCodesWrong)

/- THE SECOND FORM. 'bulk': how many values and letters a reading holds, each counted each time it is reached (what is shared counts as often as it is met; a slice's spare places count too). A statement '..UptoSaid' is the law's where the arguments, and the package variables that the reading takes, are together of bulk at most 1048576: NARROWER than '..Said'. Prove '..Said' where nothing that the law and all that it calls make is longer than what came in: it says more and counts as full. Else prove '..UptoSaid'. A law counts once. -/
mutual
def uptoBulk {H : Type} : DataW H → Nat
  | .lit (.string bytes) => bytes.length + 1
  | .lit _ => 1
  | .nil => 1
  | .ptr d => uptoBulk d + 1
  | .slice elems spare => uptoBulkAll elems + uptoBulkAll spare + 1
  | .agg parts => uptoBulkAll parts + 1
  | .iface _ d => uptoBulk d + 1
  | .map entries => uptoBulkEntries entries + 1
  | .held _ => 1
def uptoBulkAll {H : Type} : List (DataW H) → Nat
  | [] => 0
  | d :: r => uptoBulk d + uptoBulkAll r
def uptoBulkEntries {H : Type} : List (Lit × DataW H) → Nat
  | [] => 0
  | x :: r => uptoBulkEntry x + uptoBulkEntries r
def uptoBulkEntry {H : Type} : Lit × DataW H → Nat
  | (.string bytes, d) => bytes.length + uptoBulk d + 1
  | (_, d) => uptoBulk d + 1
 end
def uptoSmall : (H : Type) → List (DataW H) → Bool := fun _ ds => decide (uptoBulkAll ds ≤ 1048576)
def OpenSpec.upto (s : _root_.Go.ChangeSpec) : _root_.Go.OpenSpec := { _root_.Go.OpenSpec.ofChange s with cond := some uptoSmall }

/-- 'sallyportlaw6.MemPlays', WHERE WHAT IT READS IS OF BULK AT MOST 1048576: true; the input reads as it did. -/
def memPlaysUptoRow : OpenClaim := { program := "ytgeefklpljolaaa", sum := "ede05e5d3e52aa553c58177ae5210e0539d9ccf661e0d0e3c7f61bad8290a39c", func := "sallyport/sallyportlaw6.MemPlays", spec := "memPlays", apart := false, narrowed := true }
def MemPlaysUptoSaid : Prop := memPlaysUptoRow.holds Try.pinned (OpenSpec.upto memPlaysSpec)

/-- 'sallyportlaw6.MemBack', WHERE WHAT IT READS IS OF BULK AT MOST 1048576: true; the input reads as it did. -/
def memBackUptoRow : OpenClaim := { program := "ytgeefklpljolaaa", sum := "ede05e5d3e52aa553c58177ae5210e0539d9ccf661e0d0e3c7f61bad8290a39c", func := "sallyport/sallyportlaw6.MemBack", spec := "memBack", apart := false, narrowed := true }
def MemBackUptoSaid : Prop := memBackUptoRow.holds Try.pinned (OpenSpec.upto memBackSpec)

/-- 'sallyportlaw6.MemLays', WHERE WHAT IT READS IS OF BULK AT MOST 1048576: true; the input reads as it did. -/
def memLaysUptoRow : OpenClaim := { program := "ytgeefklpljolaaa", sum := "ede05e5d3e52aa553c58177ae5210e0539d9ccf661e0d0e3c7f61bad8290a39c", func := "sallyport/sallyportlaw6.MemLays", spec := "memLays", apart := false, narrowed := true }
def MemLaysUptoSaid : Prop := memLaysUptoRow.holds Try.pinned (OpenSpec.upto memLaysSpec)

/-- 'sallyportlaw6.MemCodes', WHERE WHAT IT READS IS OF BULK AT MOST 1048576: true; the input reads as it did. -/
def memCodesUptoRow : OpenClaim := { program := "ytgeefklpljolaaa", sum := "ede05e5d3e52aa553c58177ae5210e0539d9ccf661e0d0e3c7f61bad8290a39c", func := "sallyport/sallyportlaw6.MemCodes", spec := "memCodes", apart := false, narrowed := true }
def MemCodesUptoSaid : Prop := memCodesUptoRow.holds Try.pinned (OpenSpec.upto memCodesSpec)

end Rows
end Go.Proofs.Ytgeefklpljolaaa
