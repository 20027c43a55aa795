/-
  The walk of statement CsrTells, its arguments in the statement's own order, its conditions behind.
-/
import Derived.Test.YtebdokgfcjlplaaDoorCTells
import Derived.Test.YtebdokgfcjlplaaDoorCShell
namespace Go.Proofs.YtebdokgfcjlplaaDoor
open Go.RowKit
section
variable {W : World}
theorem ctells_own (S : StM) (n i v : Int) (t l : Bool) (hS : S.Ok) (hv : U v) (hT : Tab8 W) :
    Calls Tryd.prog 3 #[.agg (rowOf 65 (stF S)), .int .i64 n, .int .i64 i, .int .u64 v, .bool t, .bool l] W fun e w' => e = .returned (.bool true) ∧ Kept W w' := ctells_any S hS n i v hv t l hT
end
end Go.Proofs.YtebdokgfcjlplaaDoor
