/-
  The walk of statement CsrPending, its arguments in the statement's own order, its conditions behind.
-/
import Derived.Test.YtebdokgfcjlplaaDoorCPending
import Derived.Test.YtebdokgfcjlplaaDoorCShell
namespace Go.Proofs.YtebdokgfcjlplaaDoor
open Go.RowKit
section
variable {W : World}
theorem cpending_own (S : StM) (v : Int) (t l : Bool) (hS : S.Ok) (hv : U v) (hT : Tab8 W) :
    Calls Tryd.prog 8 #[.agg (rowOf 65 (stF S)), .int .u64 v, .bool t, .bool l] W fun e w' => e = .returned (.bool true) ∧ Kept W w' := cpending_any S hS v hv t l hT
end
end Go.Proofs.YtebdokgfcjlplaaDoor
