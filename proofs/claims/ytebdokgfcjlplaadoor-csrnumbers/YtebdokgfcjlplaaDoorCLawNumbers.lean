/-
  The walk of statement CsrNumbers, its arguments in the statement's own order, its conditions behind.
-/
import Derived.Test.YtebdokgfcjlplaaDoorCNumbers
import Derived.Test.YtebdokgfcjlplaaDoorCShell
namespace Go.Proofs.YtebdokgfcjlplaaDoor
open Go.RowKit
section
variable {W : World}
theorem cnum_own (a b : Int) (hT : Tab8 W) :
    Calls Tryd.prog 6 #[.int .i64 a, .int .i64 b] W fun e w' => e = .returned (.bool true) ∧ Kept W w' := cnum_all a b hT
end
end Go.Proofs.YtebdokgfcjlplaaDoor
