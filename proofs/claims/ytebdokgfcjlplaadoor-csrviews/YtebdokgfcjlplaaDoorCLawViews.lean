/-
  The walk of statement CsrViews, its arguments in the statement's own order, its conditions behind.
-/
import Derived.Test.YtebdokgfcjlplaaDoorCViews
import Derived.Test.YtebdokgfcjlplaaDoorCShell
namespace Go.Proofs.YtebdokgfcjlplaaDoor
open Go.RowKit
section
variable {W : World}
theorem cviews_own (S : StM) (v : Int) (hS : S.Ok) (hv : U v) (hT : Tab8 W) :
    Calls Tryd.prog 5 #[.agg (rowOf 65 (stF S)), .int .u64 v] W fun e w' => e = .returned (.bool true) ∧ Kept W w' := cviews_any S hS v hv hT
end
end Go.Proofs.YtebdokgfcjlplaaDoor
