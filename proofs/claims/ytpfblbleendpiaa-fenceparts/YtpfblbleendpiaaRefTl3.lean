/-
  All that are there, as the document's own call answers: walked whole.
-/
import Derived.Test.YtpfblbleendpiaaRefTl2
import Derived.Test.YtpfblbleendpiaaOwnEnt
namespace Go.Proofs.Ytpfblbleendpiaa
open Go.RowKit
section
variable {w : World} {b : Nat} {T : Nat → EntM}
theorem TlAt.cell (ht : TlAt w b T) (j : Nat) (hj : j < 16) (k : Nat) (v : Value) (hv : (entA (T j))[k]? = some v) : w.cell? ⟨b, j * 9 + k, none⟩ = some v := ht.at_ j hj k v hv
end
end Go.Proofs.Ytpfblbleendpiaa
