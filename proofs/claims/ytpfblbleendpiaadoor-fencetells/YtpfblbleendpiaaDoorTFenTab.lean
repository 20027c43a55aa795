/-
  What the road of package fence wants of package-level variables: the listed tables of package csr.
-/
import Derived.Test.YtpfblbleendpiaaDoorTTl
import Derived.Test.YtpfblbleendpiaaDoorTTabF
namespace Go.Proofs.YtpfblbleendpiaaDoor
open Go.RowKit
structure Tab14 (w : World) : Prop where
  c : TabC w
  g : TabG w
theorem Tab14.kept {w w' : World} (h : Tab14 w) (k : Kept w w') : Tab14 w' := ⟨h.c.kept k, h.g.kept k⟩
theorem Tab14.tl {w : World} (_ : Tab14 w) : Tab13 w := ⟨rfl⟩
end Go.Proofs.YtpfblbleendpiaaDoor
