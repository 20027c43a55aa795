/-
  NARROWER THAN 'FOR EVERY INPUT', by the rows' own cells (each row's printed sentence says how): RouteTells: laid · RouteUp: laid · RouteQuiet: laid · RouteBits: laid.
  DERIVED. THE GIVEN ROWS OF THIS SEAT. 4 by the template 'for every input the law returns true; each argument reads behind the call as it read before'; 0 by the template 'total and deterministic' (their statements: YtkijdogckfpdpaaDoorTotals.lean).
  GIVEN WITH THE SEED: the statements are not yours to turn. If you find one false, say at which input.
  Laid BY PROGRAM, IN A SANDBOX (cutbox-rows.mjs): the forced cells as the released guide's own fill.sh prints them over the translation 33ca1b25bd8e2b8f… (all of the seat's roots in one cut). By AI agents, Wed Nov 11 2026. No macro, syntax, notation, axiom, sorry.
-/
import Derived.Test.YtkijdogckfpdpaaDoorChecked
import GoSem.Claim
import GoSem.ClaimJoined
import GoSem.ClaimMapViews
import Derived.JoinedTies
import Derived.KernelRfl
namespace Go.Proofs.YtkijdogckfpdpaaDoor
/- THE CELL 'sum', in the pinned program and in every row, IS THE sha256 OF THE DUMP (.gsa) THAT YtkijdogckfpdpaaDoorProg.lean LOADS. Nothing in Lean hashes anything: it is a label: what it is worth is what the hold of that sum in a sandbox is worth. -/
noncomputable def Tryd.pinned : Pinned := { name := "ytkijdogckfpdpaadoor", sum := "33ca1b25bd8e2b8f9fc2497d088faa817fd21d0e070ff3218d7d15ecf2a0cabf", checked := Tryd.checked }
namespace Rows
def none {H : Type} : Left H := { results := [], args := [] }

/- WHAT THE LISTED PACKAGE-LEVEL VARIABLES READ AS WHEN THE CALL BEGINS. Each datum BY PROGRAM (the guide's laid-datum.mjs) off the statement by which the dump's own 'gosem.cut.vars' lays the variable. In a bare row this is a premise. The card (YtkijdogckfpdpaaDoorCards.lean) ties it to the program's text. -/
def laid_sallyport_route_order {H : Type} : DataW H := .agg [.agg [.lit (.int .u64 9), .lit (.int .i64 2), .lit (.bool false), .lit (.int .i64 3), .lit (.bool false), .lit (.int .u64 9)], .agg [.lit (.int .u64 5), .lit (.int .i64 2), .lit (.bool false), .lit (.int .i64 3), .lit (.bool false), .lit (.int .u64 5)], .agg [.lit (.int .u64 9), .lit (.int .i64 2), .lit (.bool true), .lit (.int .i64 1), .lit (.bool false), .lit (.int .u64 9)], .agg [.lit (.int .u64 5), .lit (.int .i64 2), .lit (.bool true), .lit (.int .i64 1), .lit (.bool false), .lit (.int .u64 5)], .agg [.lit (.int .u64 10), .lit (.int .i64 18), .lit (.bool false), .lit (.int .i64 1), .lit (.bool false), .lit (.int .u64 10)], .agg [.lit (.int .u64 6), .lit (.int .i64 18), .lit (.bool false), .lit (.int .i64 1), .lit (.bool false), .lit (.int .u64 6)], .agg [.lit (.int .u64 10), .lit (.int .i64 18), .lit (.bool true), .lit (.int .i64 1), .lit (.bool true), .lit (.int .u64 9)], .agg [.lit (.int .u64 6), .lit (.int .i64 18), .lit (.bool true), .lit (.int .i64 1), .lit (.bool true), .lit (.int .u64 5)]]

/-- 'sallyportlaw15.RouteTells': WHATEVER THE INPUT: true; the input reads as it did. -/
def routeTellsSpec : ChangeSpec := { name := "routeTells", fn := fun _ => fun
  | [d1, d2, d3, d4] => { results := [.lit (.bool true)], args := [d1, d2, d3, d4] }
  | _ => none }
def routeTellsRow : OpenClaim := { program := "ytkijdogckfpdpaadoor", sum := "33ca1b25bd8e2b8f9fc2497d088faa817fd21d0e070ff3218d7d15ecf2a0cabf", func := "sallyport/sallyportlaw15.RouteTells", spec := "routeTells", named := ["sallyport/route.order"], apart := false, laid := [("sallyport/route.order", laid_sallyport_route_order)] }
def RouteTellsSaid : Prop := routeTellsRow.holds Tryd.pinned (OpenSpec.ofChange routeTellsSpec)

/-- ITS FALSE NEIGHBOUR: 'it returns false'. Refute it at one input. -/
def routeTellsWrong : ChangeSpec := { name := "routeTells", fn := fun _ => fun
  | [d1, d2, d3, d4] => { results := [.lit (.bool false)], args := [d1, d2, d3, d4] }
  | _ => none }
def RouteTellsWrongFalsely : Prop := routeTellsRow.holds Tryd.pinned (OpenSpec.ofChange routeTellsWrong)

/-- 'sallyportlaw15.RouteUp': WHATEVER THE INPUT: true; the input reads as it did. -/
def routeUpSpec : ChangeSpec := { name := "routeUp", fn := fun _ => fun
  | [d1, d2, d3, d4] => { results := [.lit (.bool true)], args := [d1, d2, d3, d4] }
  | _ => none }
def routeUpRow : OpenClaim := { program := "ytkijdogckfpdpaadoor", sum := "33ca1b25bd8e2b8f9fc2497d088faa817fd21d0e070ff3218d7d15ecf2a0cabf", func := "sallyport/sallyportlaw15.RouteUp", spec := "routeUp", named := ["sallyport/route.order"], apart := false, laid := [("sallyport/route.order", laid_sallyport_route_order)] }
def RouteUpSaid : Prop := routeUpRow.holds Tryd.pinned (OpenSpec.ofChange routeUpSpec)

/-- ITS FALSE NEIGHBOUR: 'it returns false'. Refute it at one input. -/
def routeUpWrong : ChangeSpec := { name := "routeUp", fn := fun _ => fun
  | [d1, d2, d3, d4] => { results := [.lit (.bool false)], args := [d1, d2, d3, d4] }
  | _ => none }
def RouteUpWrongFalsely : Prop := routeUpRow.holds Tryd.pinned (OpenSpec.ofChange routeUpWrong)

/-- 'sallyportlaw15.RouteQuiet': WHATEVER THE INPUT: true; the input reads as it did. -/
def routeQuietSpec : ChangeSpec := { name := "routeQuiet", fn := fun _ => fun
  | [d1, d2, d3] => { results := [.lit (.bool true)], args := [d1, d2, d3] }
  | _ => none }
def routeQuietRow : OpenClaim := { program := "ytkijdogckfpdpaadoor", sum := "33ca1b25bd8e2b8f9fc2497d088faa817fd21d0e070ff3218d7d15ecf2a0cabf", func := "sallyport/sallyportlaw15.RouteQuiet", spec := "routeQuiet", named := ["sallyport/route.order"], apart := false, laid := [("sallyport/route.order", laid_sallyport_route_order)] }
def RouteQuietSaid : Prop := routeQuietRow.holds Tryd.pinned (OpenSpec.ofChange routeQuietSpec)

/-- ITS FALSE NEIGHBOUR: 'it returns false'. Refute it at one input. -/
def routeQuietWrong : ChangeSpec := { name := "routeQuiet", fn := fun _ => fun
  | [d1, d2, d3] => { results := [.lit (.bool false)], args := [d1, d2, d3] }
  | _ => none }
def RouteQuietWrongFalsely : Prop := routeQuietRow.holds Tryd.pinned (OpenSpec.ofChange routeQuietWrong)

/-- 'sallyportlaw15.RouteBits': WHATEVER THE INPUT: true; the input reads as it did. -/
def routeBitsSpec : ChangeSpec := { name := "routeBits", fn := fun _ => fun
  | [d1, d2, d3] => { results := [.lit (.bool true)], args := [d1, d2, d3] }
  | _ => none }
def routeBitsRow : OpenClaim := { program := "ytkijdogckfpdpaadoor", sum := "33ca1b25bd8e2b8f9fc2497d088faa817fd21d0e070ff3218d7d15ecf2a0cabf", func := "sallyport/sallyportlaw15.RouteBits", spec := "routeBits", named := ["sallyport/route.order"], apart := false, laid := [("sallyport/route.order", laid_sallyport_route_order)] }
def RouteBitsSaid : Prop := routeBitsRow.holds Tryd.pinned (OpenSpec.ofChange routeBitsSpec)

/-- ITS FALSE NEIGHBOUR: 'it returns false'. Refute it at one input. -/
def routeBitsWrong : ChangeSpec := { name := "routeBits", fn := fun _ => fun
  | [d1, d2, d3] => { results := [.lit (.bool false)], args := [d1, d2, d3] }
  | _ => none }
def RouteBitsWrongFalsely : Prop := routeBitsRow.holds Tryd.pinned (OpenSpec.ofChange routeBitsWrong)

/- THE SECOND FORM. 'bulk': how many values and letters a reading holds, each counted each time it is reached (what is shared counts as often as it is met; a slice's spare places count too). A statement '..UptoSaid' is the law's where the arguments, and the package variables that the reading takes, are together of bulk at most 1048576: NARROWER than '..Said'. Prove '..Said' where nothing that the law and all that it calls make is longer than what came in: it says more and counts as full. Else prove '..UptoSaid'. A law counts once. -/
mutual
def uptoBulk {H : Type} : DataW H → Nat
  | .lit (.string bytes) => bytes.length + 1
  | .lit _ => 1
  | .nil => 1
  | .ptr d => uptoBulk d + 1
  | .slice elems spare => uptoBulkAll elems + uptoBulkAll spare + 1
  | .agg parts => uptoBulkAll parts + 1
  | .iface _ d => uptoBulk d + 1
  | .map entries => uptoBulkEntries entries + 1
  | .held _ => 1
def uptoBulkAll {H : Type} : List (DataW H) → Nat
  | [] => 0
  | d :: r => uptoBulk d + uptoBulkAll r
def uptoBulkEntries {H : Type} : List (Lit × DataW H) → Nat
  | [] => 0
  | x :: r => uptoBulkEntry x + uptoBulkEntries r
def uptoBulkEntry {H : Type} : Lit × DataW H → Nat
  | (.string bytes, d) => bytes.length + uptoBulk d + 1
  | (_, d) => uptoBulk d + 1
 end
def uptoSmall : (H : Type) → List (DataW H) → Bool := fun _ ds => decide (uptoBulkAll ds ≤ 1048576)
def OpenSpec.upto (s : _root_.Go.ChangeSpec) : _root_.Go.OpenSpec := { _root_.Go.OpenSpec.ofChange s with cond := some uptoSmall }

/-- 'sallyportlaw15.RouteTells', WHERE WHAT IT READS IS OF BULK AT MOST 1048576: true; the input reads as it did. -/
def routeTellsUptoRow : OpenClaim := { program := "ytkijdogckfpdpaadoor", sum := "33ca1b25bd8e2b8f9fc2497d088faa817fd21d0e070ff3218d7d15ecf2a0cabf", func := "sallyport/sallyportlaw15.RouteTells", spec := "routeTells", named := ["sallyport/route.order"], apart := false, laid := [("sallyport/route.order", laid_sallyport_route_order)], narrowed := true }
def RouteTellsUptoSaid : Prop := routeTellsUptoRow.holds Tryd.pinned (OpenSpec.upto routeTellsSpec)

/-- 'sallyportlaw15.RouteUp', WHERE WHAT IT READS IS OF BULK AT MOST 1048576: true; the input reads as it did. -/
def routeUpUptoRow : OpenClaim := { program := "ytkijdogckfpdpaadoor", sum := "33ca1b25bd8e2b8f9fc2497d088faa817fd21d0e070ff3218d7d15ecf2a0cabf", func := "sallyport/sallyportlaw15.RouteUp", spec := "routeUp", named := ["sallyport/route.order"], apart := false, laid := [("sallyport/route.order", laid_sallyport_route_order)], narrowed := true }
def RouteUpUptoSaid : Prop := routeUpUptoRow.holds Tryd.pinned (OpenSpec.upto routeUpSpec)

/-- 'sallyportlaw15.RouteQuiet', WHERE WHAT IT READS IS OF BULK AT MOST 1048576: true; the input reads as it did. -/
def routeQuietUptoRow : OpenClaim := { program := "ytkijdogckfpdpaadoor", sum := "33ca1b25bd8e2b8f9fc2497d088faa817fd21d0e070ff3218d7d15ecf2a0cabf", func := "sallyport/sallyportlaw15.RouteQuiet", spec := "routeQuiet", named := ["sallyport/route.order"], apart := false, laid := [("sallyport/route.order", laid_sallyport_route_order)], narrowed := true }
def RouteQuietUptoSaid : Prop := routeQuietUptoRow.holds Tryd.pinned (OpenSpec.upto routeQuietSpec)

/-- 'sallyportlaw15.RouteBits', WHERE WHAT IT READS IS OF BULK AT MOST 1048576: true; the input reads as it did. -/
def routeBitsUptoRow : OpenClaim := { program := "ytkijdogckfpdpaadoor", sum := "33ca1b25bd8e2b8f9fc2497d088faa817fd21d0e070ff3218d7d15ecf2a0cabf", func := "sallyport/sallyportlaw15.RouteBits", spec := "routeBits", named := ["sallyport/route.order"], apart := false, laid := [("sallyport/route.order", laid_sallyport_route_order)], narrowed := true }
def RouteBitsUptoSaid : Prop := routeBitsUptoRow.holds Tryd.pinned (OpenSpec.upto routeBitsSpec)

end Rows
end Go.Proofs.YtkijdogckfpdpaaDoor
