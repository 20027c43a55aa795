/-
  NARROWER THAN 'FOR EVERY INPUT', by the rows' own cells (each row's printed sentence says how): PteTells: laid · PteLess: laid · PteMade: laid · PteUsers: laid.
  DERIVED. THE GIVEN ROWS OF THIS SEAT. 4 by the template 'for every input the law returns true; each argument reads behind the call as it read before'; 0 by the template 'total and deterministic' (their statements: YtlgmnnfgekmibaaDoorTotals.lean).
  GIVEN WITH THE SEED: the statements are not yours to turn. If you find one false, say at which input.
  Laid BY PROGRAM, IN A SANDBOX (cutbox-rows.mjs): the forced cells as the released guide's own fill.sh prints them over the translation adf1ab3c268c5a4a… (all of the seat's roots in one cut). By AI agents, Wed Nov 11 2026. No macro, syntax, notation, axiom, sorry.
-/
import Derived.Test.YtlgmnnfgekmibaaDoorChecked
import GoSem.Claim
import GoSem.ClaimJoined
import GoSem.ClaimMapViews
import Derived.JoinedTies
import Derived.KernelRfl
namespace Go.Proofs.YtlgmnnfgekmibaaDoor
/- THE CELL 'sum', in the pinned program and in every row, IS THE sha256 OF THE DUMP (.gsa) THAT YtlgmnnfgekmibaaDoorProg.lean LOADS. Nothing in Lean hashes anything: it is a label: what it is worth is what the hold of that sum in a sandbox is worth. -/
noncomputable def Tryd.pinned : Pinned := { name := "ytlgmnnfgekmibaadoor", sum := "adf1ab3c268c5a4ad2a2befb3700a6fba6b5088d864378fcd8473104437273d7", checked := Tryd.checked }
namespace Rows
def none {H : Type} : Left H := { results := [], args := [] }

/- WHAT THE LISTED PACKAGE-LEVEL VARIABLES READ AS WHEN THE CALL BEGINS. Each datum BY PROGRAM (the guide's laid-datum.mjs) off the statement by which the dump's own 'gosem.cut.vars' lays the variable. In a bare row this is a premise. The card (YtlgmnnfgekmibaaDoorCards.lean) ties it to the program's text. -/
def laid_math_bits_deBruijn32tab {H : Type} : DataW H := .agg [.lit (.int .u8 0), .lit (.int .u8 1), .lit (.int .u8 28), .lit (.int .u8 2), .lit (.int .u8 29), .lit (.int .u8 14), .lit (.int .u8 24), .lit (.int .u8 3), .lit (.int .u8 30), .lit (.int .u8 22), .lit (.int .u8 20), .lit (.int .u8 15), .lit (.int .u8 25), .lit (.int .u8 17), .lit (.int .u8 4), .lit (.int .u8 8), .lit (.int .u8 31), .lit (.int .u8 27), .lit (.int .u8 13), .lit (.int .u8 23), .lit (.int .u8 21), .lit (.int .u8 19), .lit (.int .u8 16), .lit (.int .u8 7), .lit (.int .u8 26), .lit (.int .u8 12), .lit (.int .u8 18), .lit (.int .u8 6), .lit (.int .u8 11), .lit (.int .u8 5), .lit (.int .u8 10), .lit (.int .u8 9)]
def laid_math_bits_deBruijn64tab {H : Type} : DataW H := .agg [.lit (.int .u8 0), .lit (.int .u8 1), .lit (.int .u8 56), .lit (.int .u8 2), .lit (.int .u8 57), .lit (.int .u8 49), .lit (.int .u8 28), .lit (.int .u8 3), .lit (.int .u8 61), .lit (.int .u8 58), .lit (.int .u8 42), .lit (.int .u8 50), .lit (.int .u8 38), .lit (.int .u8 29), .lit (.int .u8 17), .lit (.int .u8 4), .lit (.int .u8 62), .lit (.int .u8 47), .lit (.int .u8 59), .lit (.int .u8 36), .lit (.int .u8 45), .lit (.int .u8 43), .lit (.int .u8 51), .lit (.int .u8 22), .lit (.int .u8 53), .lit (.int .u8 39), .lit (.int .u8 33), .lit (.int .u8 30), .lit (.int .u8 24), .lit (.int .u8 18), .lit (.int .u8 12), .lit (.int .u8 5), .lit (.int .u8 63), .lit (.int .u8 55), .lit (.int .u8 48), .lit (.int .u8 27), .lit (.int .u8 60), .lit (.int .u8 41), .lit (.int .u8 37), .lit (.int .u8 16), .lit (.int .u8 46), .lit (.int .u8 35), .lit (.int .u8 44), .lit (.int .u8 21), .lit (.int .u8 52), .lit (.int .u8 32), .lit (.int .u8 23), .lit (.int .u8 11), .lit (.int .u8 54), .lit (.int .u8 26), .lit (.int .u8 40), .lit (.int .u8 15), .lit (.int .u8 34), .lit (.int .u8 20), .lit (.int .u8 31), .lit (.int .u8 10), .lit (.int .u8 25), .lit (.int .u8 14), .lit (.int .u8 19), .lit (.int .u8 9), .lit (.int .u8 13), .lit (.int .u8 8), .lit (.int .u8 7), .lit (.int .u8 6)]
def laid_internal_strconv_uint64pow10 {H : Type} : DataW H := .agg [.lit (.int .u64 1), .lit (.int .u64 10), .lit (.int .u64 100), .lit (.int .u64 1000), .lit (.int .u64 10000), .lit (.int .u64 100000), .lit (.int .u64 1000000), .lit (.int .u64 10000000), .lit (.int .u64 100000000), .lit (.int .u64 1000000000), .lit (.int .u64 10000000000), .lit (.int .u64 100000000000), .lit (.int .u64 1000000000000), .lit (.int .u64 10000000000000), .lit (.int .u64 100000000000000), .lit (.int .u64 1000000000000000), .lit (.int .u64 10000000000000000), .lit (.int .u64 100000000000000000), .lit (.int .u64 1000000000000000000), .lit (.int .u64 10000000000000000000)]
def laid_sallyport_pte_letters {H : Type} : DataW H := .agg [.agg [.lit (.int .u64 1), .lit (.int .u8 86)], .agg [.lit (.int .u64 2), .lit (.int .u8 82)], .agg [.lit (.int .u64 4), .lit (.int .u8 87)], .agg [.lit (.int .u64 8), .lit (.int .u8 88)], .agg [.lit (.int .u64 16), .lit (.int .u8 85)], .agg [.lit (.int .u64 64), .lit (.int .u8 65)], .agg [.lit (.int .u64 128), .lit (.int .u8 68)]]
def laid_sallyport_pte_rights {H : Type} : DataW H := .agg [.agg [.lit (.int .i64 0), .lit (.int .i64 8), .lit (.bool false)], .agg [.lit (.int .i64 1), .lit (.int .i64 2), .lit (.bool false)], .agg [.lit (.int .i64 1), .lit (.int .i64 8), .lit (.bool true)], .agg [.lit (.int .i64 2), .lit (.int .i64 132), .lit (.bool false)]]

/-- 'sallyportlaw10.PteTells': WHATEVER THE INPUT: true; the input reads as it did. -/
def pteTellsSpec : ChangeSpec := { name := "pteTells", fn := fun _ => fun
  | [d1, d2, d3, d4, d5, d6, d7] => { results := [.lit (.bool true)], args := [d1, d2, d3, d4, d5, d6, d7] }
  | _ => none }
def pteTellsRow : OpenClaim := { program := "ytlgmnnfgekmibaadoor", sum := "adf1ab3c268c5a4ad2a2befb3700a6fba6b5088d864378fcd8473104437273d7", func := "sallyport/sallyportlaw10.PteTells", spec := "pteTells", recurses := true, named := ["sallyport/pte.rights", "sallyport/pte.letters", "internal/strconv.uint64pow10", "math/bits.deBruijn32tab", "math/bits.deBruijn64tab"], apart := false, laid := [("math/bits.deBruijn32tab", laid_math_bits_deBruijn32tab), ("math/bits.deBruijn64tab", laid_math_bits_deBruijn64tab), ("internal/strconv.uint64pow10", laid_internal_strconv_uint64pow10), ("sallyport/pte.letters", laid_sallyport_pte_letters), ("sallyport/pte.rights", laid_sallyport_pte_rights)] }
def PteTellsSaid : Prop := pteTellsRow.holds Tryd.pinned (OpenSpec.ofChange pteTellsSpec)

/-- ITS FALSE NEIGHBOUR: 'it returns false'. Refute it at one input. -/
def pteTellsWrong : ChangeSpec := { name := "pteTells", fn := fun _ => fun
  | [d1, d2, d3, d4, d5, d6, d7] => { results := [.lit (.bool false)], args := [d1, d2, d3, d4, d5, d6, d7] }
  | _ => none }
def PteTellsWrongFalsely : Prop := pteTellsRow.holds Tryd.pinned (OpenSpec.ofChange pteTellsWrong)

/-- 'sallyportlaw10.PteLess': WHATEVER THE INPUT: true; the input reads as it did. -/
def pteLessSpec : ChangeSpec := { name := "pteLess", fn := fun _ => fun
  | [d1, d2, d3, d4, d5, d6] => { results := [.lit (.bool true)], args := [d1, d2, d3, d4, d5, d6] }
  | _ => none }
def pteLessRow : OpenClaim := { program := "ytlgmnnfgekmibaadoor", sum := "adf1ab3c268c5a4ad2a2befb3700a6fba6b5088d864378fcd8473104437273d7", func := "sallyport/sallyportlaw10.PteLess", spec := "pteLess", named := ["sallyport/pte.rights", "sallyport/pte.letters", "internal/strconv.uint64pow10", "math/bits.deBruijn32tab", "math/bits.deBruijn64tab"], apart := false, laid := [("math/bits.deBruijn32tab", laid_math_bits_deBruijn32tab), ("math/bits.deBruijn64tab", laid_math_bits_deBruijn64tab), ("internal/strconv.uint64pow10", laid_internal_strconv_uint64pow10), ("sallyport/pte.letters", laid_sallyport_pte_letters), ("sallyport/pte.rights", laid_sallyport_pte_rights)] }
def PteLessSaid : Prop := pteLessRow.holds Tryd.pinned (OpenSpec.ofChange pteLessSpec)

/-- ITS FALSE NEIGHBOUR: 'it returns false'. Refute it at one input. -/
def pteLessWrong : ChangeSpec := { name := "pteLess", fn := fun _ => fun
  | [d1, d2, d3, d4, d5, d6] => { results := [.lit (.bool false)], args := [d1, d2, d3, d4, d5, d6] }
  | _ => none }
def PteLessWrongFalsely : Prop := pteLessRow.holds Tryd.pinned (OpenSpec.ofChange pteLessWrong)

/-- 'sallyportlaw10.PteMade': WHATEVER THE INPUT: true; the input reads as it did. -/
def pteMadeSpec : ChangeSpec := { name := "pteMade", fn := fun _ => fun
  | [d1, d2] => { results := [.lit (.bool true)], args := [d1, d2] }
  | _ => none }
def pteMadeRow : OpenClaim := { program := "ytlgmnnfgekmibaadoor", sum := "adf1ab3c268c5a4ad2a2befb3700a6fba6b5088d864378fcd8473104437273d7", func := "sallyport/sallyportlaw10.PteMade", spec := "pteMade", named := ["sallyport/pte.rights", "sallyport/pte.letters", "internal/strconv.uint64pow10", "math/bits.deBruijn32tab", "math/bits.deBruijn64tab"], apart := false, laid := [("math/bits.deBruijn32tab", laid_math_bits_deBruijn32tab), ("math/bits.deBruijn64tab", laid_math_bits_deBruijn64tab), ("internal/strconv.uint64pow10", laid_internal_strconv_uint64pow10), ("sallyport/pte.letters", laid_sallyport_pte_letters), ("sallyport/pte.rights", laid_sallyport_pte_rights)] }
def PteMadeSaid : Prop := pteMadeRow.holds Tryd.pinned (OpenSpec.ofChange pteMadeSpec)

/-- ITS FALSE NEIGHBOUR: 'it returns false'. Refute it at one input. -/
def pteMadeWrong : ChangeSpec := { name := "pteMade", fn := fun _ => fun
  | [d1, d2] => { results := [.lit (.bool false)], args := [d1, d2] }
  | _ => none }
def PteMadeWrongFalsely : Prop := pteMadeRow.holds Tryd.pinned (OpenSpec.ofChange pteMadeWrong)

/-- 'sallyportlaw10.PteUsers': WHATEVER THE INPUT: true; the input reads as it did. -/
def pteUsersSpec : ChangeSpec := { name := "pteUsers", fn := fun _ => fun
  | [d1, d2] => { results := [.lit (.bool true)], args := [d1, d2] }
  | _ => none }
def pteUsersRow : OpenClaim := { program := "ytlgmnnfgekmibaadoor", sum := "adf1ab3c268c5a4ad2a2befb3700a6fba6b5088d864378fcd8473104437273d7", func := "sallyport/sallyportlaw10.PteUsers", spec := "pteUsers", named := ["sallyport/pte.rights", "sallyport/pte.letters", "internal/strconv.uint64pow10", "math/bits.deBruijn32tab", "math/bits.deBruijn64tab"], apart := false, laid := [("math/bits.deBruijn32tab", laid_math_bits_deBruijn32tab), ("math/bits.deBruijn64tab", laid_math_bits_deBruijn64tab), ("internal/strconv.uint64pow10", laid_internal_strconv_uint64pow10), ("sallyport/pte.letters", laid_sallyport_pte_letters), ("sallyport/pte.rights", laid_sallyport_pte_rights)] }
def PteUsersSaid : Prop := pteUsersRow.holds Tryd.pinned (OpenSpec.ofChange pteUsersSpec)

/-- ITS FALSE NEIGHBOUR: 'it returns false'. Refute it at one input. -/
def pteUsersWrong : ChangeSpec := { name := "pteUsers", fn := fun _ => fun
  | [d1, d2] => { results := [.lit (.bool false)], args := [d1, d2] }
  | _ => none }
def PteUsersWrongFalsely : Prop := pteUsersRow.holds Tryd.pinned (OpenSpec.ofChange pteUsersWrong)

/- THE SECOND FORM. 'bulk': how many values and letters a reading holds, each counted each time it is reached (what is shared counts as often as it is met; a slice's spare places count too). A statement '..UptoSaid' is the law's where the arguments, and the package variables that the reading takes, are together of bulk at most 1048576: NARROWER than '..Said'. Prove '..Said' where nothing that the law and all that it calls make is longer than what came in: it says more and counts as full. Else prove '..UptoSaid'. A law counts once. -/
mutual
def uptoBulk {H : Type} : DataW H → Nat
  | .lit (.string bytes) => bytes.length + 1
  | .lit _ => 1
  | .nil => 1
  | .ptr d => uptoBulk d + 1
  | .slice elems spare => uptoBulkAll elems + uptoBulkAll spare + 1
  | .agg parts => uptoBulkAll parts + 1
  | .iface _ d => uptoBulk d + 1
  | .map entries => uptoBulkEntries entries + 1
  | .held _ => 1
def uptoBulkAll {H : Type} : List (DataW H) → Nat
  | [] => 0
  | d :: r => uptoBulk d + uptoBulkAll r
def uptoBulkEntries {H : Type} : List (Lit × DataW H) → Nat
  | [] => 0
  | x :: r => uptoBulkEntry x + uptoBulkEntries r
def uptoBulkEntry {H : Type} : Lit × DataW H → Nat
  | (.string bytes, d) => bytes.length + uptoBulk d + 1
  | (_, d) => uptoBulk d + 1
 end
def uptoSmall : (H : Type) → List (DataW H) → Bool := fun _ ds => decide (uptoBulkAll ds ≤ 1048576)
def OpenSpec.upto (s : _root_.Go.ChangeSpec) : _root_.Go.OpenSpec := { _root_.Go.OpenSpec.ofChange s with cond := some uptoSmall }

/-- 'sallyportlaw10.PteTells', WHERE WHAT IT READS IS OF BULK AT MOST 1048576: true; the input reads as it did. -/
def pteTellsUptoRow : OpenClaim := { program := "ytlgmnnfgekmibaadoor", sum := "adf1ab3c268c5a4ad2a2befb3700a6fba6b5088d864378fcd8473104437273d7", func := "sallyport/sallyportlaw10.PteTells", spec := "pteTells", recurses := true, named := ["sallyport/pte.rights", "sallyport/pte.letters", "internal/strconv.uint64pow10", "math/bits.deBruijn32tab", "math/bits.deBruijn64tab"], apart := false, laid := [("math/bits.deBruijn32tab", laid_math_bits_deBruijn32tab), ("math/bits.deBruijn64tab", laid_math_bits_deBruijn64tab), ("internal/strconv.uint64pow10", laid_internal_strconv_uint64pow10), ("sallyport/pte.letters", laid_sallyport_pte_letters), ("sallyport/pte.rights", laid_sallyport_pte_rights)], narrowed := true }
def PteTellsUptoSaid : Prop := pteTellsUptoRow.holds Tryd.pinned (OpenSpec.upto pteTellsSpec)

/-- 'sallyportlaw10.PteLess', WHERE WHAT IT READS IS OF BULK AT MOST 1048576: true; the input reads as it did. -/
def pteLessUptoRow : OpenClaim := { program := "ytlgmnnfgekmibaadoor", sum := "adf1ab3c268c5a4ad2a2befb3700a6fba6b5088d864378fcd8473104437273d7", func := "sallyport/sallyportlaw10.PteLess", spec := "pteLess", named := ["sallyport/pte.rights", "sallyport/pte.letters", "internal/strconv.uint64pow10", "math/bits.deBruijn32tab", "math/bits.deBruijn64tab"], apart := false, laid := [("math/bits.deBruijn32tab", laid_math_bits_deBruijn32tab), ("math/bits.deBruijn64tab", laid_math_bits_deBruijn64tab), ("internal/strconv.uint64pow10", laid_internal_strconv_uint64pow10), ("sallyport/pte.letters", laid_sallyport_pte_letters), ("sallyport/pte.rights", laid_sallyport_pte_rights)], narrowed := true }
def PteLessUptoSaid : Prop := pteLessUptoRow.holds Tryd.pinned (OpenSpec.upto pteLessSpec)

/-- 'sallyportlaw10.PteMade', WHERE WHAT IT READS IS OF BULK AT MOST 1048576: true; the input reads as it did. -/
def pteMadeUptoRow : OpenClaim := { program := "ytlgmnnfgekmibaadoor", sum := "adf1ab3c268c5a4ad2a2befb3700a6fba6b5088d864378fcd8473104437273d7", func := "sallyport/sallyportlaw10.PteMade", spec := "pteMade", named := ["sallyport/pte.rights", "sallyport/pte.letters", "internal/strconv.uint64pow10", "math/bits.deBruijn32tab", "math/bits.deBruijn64tab"], apart := false, laid := [("math/bits.deBruijn32tab", laid_math_bits_deBruijn32tab), ("math/bits.deBruijn64tab", laid_math_bits_deBruijn64tab), ("internal/strconv.uint64pow10", laid_internal_strconv_uint64pow10), ("sallyport/pte.letters", laid_sallyport_pte_letters), ("sallyport/pte.rights", laid_sallyport_pte_rights)], narrowed := true }
def PteMadeUptoSaid : Prop := pteMadeUptoRow.holds Tryd.pinned (OpenSpec.upto pteMadeSpec)

/-- 'sallyportlaw10.PteUsers', WHERE WHAT IT READS IS OF BULK AT MOST 1048576: true; the input reads as it did. -/
def pteUsersUptoRow : OpenClaim := { program := "ytlgmnnfgekmibaadoor", sum := "adf1ab3c268c5a4ad2a2befb3700a6fba6b5088d864378fcd8473104437273d7", func := "sallyport/sallyportlaw10.PteUsers", spec := "pteUsers", named := ["sallyport/pte.rights", "sallyport/pte.letters", "internal/strconv.uint64pow10", "math/bits.deBruijn32tab", "math/bits.deBruijn64tab"], apart := false, laid := [("math/bits.deBruijn32tab", laid_math_bits_deBruijn32tab), ("math/bits.deBruijn64tab", laid_math_bits_deBruijn64tab), ("internal/strconv.uint64pow10", laid_internal_strconv_uint64pow10), ("sallyport/pte.letters", laid_sallyport_pte_letters), ("sallyport/pte.rights", laid_sallyport_pte_rights)], narrowed := true }
def PteUsersUptoSaid : Prop := pteUsersUptoRow.holds Tryd.pinned (OpenSpec.upto pteUsersSpec)

end Rows
end Go.Proofs.YtlgmnnfgekmibaaDoor
