/-
  What the document's Writes and Reads answer (the reference of layers 2 to 4): walked whole, for every instruction.
-/
import Derived.Test.YtbcmklojfmenjaaDoorRefIs
namespace Go.Proofs.YtbcmklojfmenjaaDoor
open Go.RowKit
/-- n where b holds, else 0. -/
def orZ (b : Bool) (n : Int) : Int := cond b n 0
end Go.Proofs.YtbcmklojfmenjaaDoor
