/-
  The walk of statement CsrBack, its arguments in the statement's own order, its conditions behind.
-/
import Derived.Test.YtebdokgfcjlplaaDoorCBack
import Derived.Test.YtebdokgfcjlplaaDoorCShell
namespace Go.Proofs.YtebdokgfcjlplaaDoor
open Go.RowKit
section
variable {W : World}
theorem cback_own (S : StM) (x v : Int) (hS : S.Ok) (x0 : 0 ≤ x) (x1 : x ≤ 255) (hv : U v) (hT : Tab8 W) :
    Calls Tryd.prog 4 #[.agg (rowOf 65 (stF S)), .int .u8 x, .int .u64 v] W fun e w' => e = .returned (.bool true) ∧ Kept W w' := cback_any S hS x v x0 x1 hv hT
end
end Go.Proofs.YtebdokgfcjlplaaDoor
