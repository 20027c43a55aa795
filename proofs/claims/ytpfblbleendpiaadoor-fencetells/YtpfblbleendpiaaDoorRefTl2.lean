/-
  What is looked up, filled: as the document's own calls answer: walked whole, for every argument.
-/
import Derived.Test.YtpfblbleendpiaaDoorRefTl
import Derived.Laws.ResultCell
import Derived.Deep.WholeRow
import Derived.Deep.RegionHeld3
namespace Go.Proofs.YtpfblbleendpiaaDoor
open Go.RowKit
theorem results_blk_tmp {fn : Func} {p u : Tmp} {ty T : TypeId} (h : fn.results = #[.cell p ty, .tmp u]) (tmps : Array Value) (P : Program) (w : World) (b : Nat) (cs : Array Value) (hp : tmps.getD p undef = .pointer (some ⟨b, 0, none⟩)) (hb : Blk w b T cs) (d : TypeDesc)
    (hu : P.underlying ty = some d) (hd : d.isRow = true) (hi : (P.info? ty).map (·.size) = some cs.size) :
    (results fn tmps).run P w = .ok (.tuple #[.agg cs, tmps.getD u undef]) w := by
  rw [results_cell_tmp h, hp]
  have hl : (loadVar ty ⟨b, 0, none⟩).run P w = .ok (.agg cs) w := run_loadVar_mid w b 0 ty cs.toList d hb.range hu hd hi
  simp only [asAddr, Sem.run_pure, Result.andThen_ok, hl]
section
variable {w : World} {b : Nat} {T : Nat → EntM}
end
end Go.Proofs.YtpfblbleendpiaaDoor
