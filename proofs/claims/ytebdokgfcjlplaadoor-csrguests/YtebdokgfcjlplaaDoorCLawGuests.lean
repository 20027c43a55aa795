/-
  The walk of statement CsrGuests, its arguments in the statement's own order, its conditions behind.
-/
import Derived.Test.YtebdokgfcjlplaaDoorCGuests
import Derived.Test.YtebdokgfcjlplaaDoorCShell
namespace Go.Proofs.YtebdokgfcjlplaaDoor
open Go.RowKit
section
variable {W : World}
theorem cguest_own (S : StM) (n v : Int) (hS : S.Ok) (hv : U v) (hT : Tab8 W) :
    Calls Tryd.prog 7 #[.agg (rowOf 65 (stF S)), .int .i64 n, .int .u64 v] W fun e w' => e = .returned (.bool true) ∧ Kept W w' := cguest_any S hS n v hv hT
end
end Go.Proofs.YtebdokgfcjlplaaDoor
