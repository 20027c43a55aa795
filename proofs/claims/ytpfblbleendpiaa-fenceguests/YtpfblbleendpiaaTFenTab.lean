/-
  What the road of package fence wants of package-level variables: nothing.
-/
import Derived.Test.YtpfblbleendpiaaTTl
namespace Go.Proofs.Ytpfblbleendpiaa
open Go.RowKit
structure Tab14 (w : World) : Prop where
  t : w = w
theorem Tab14.kept {w w' : World} (_ : Tab14 w) (_ : Kept w w') : Tab14 w' := ⟨rfl⟩
theorem Tab14.tl {w : World} (_ : Tab14 w) : Tab13 w := ⟨rfl⟩
end Go.Proofs.Ytpfblbleendpiaa
