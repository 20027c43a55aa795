/-
  What the Frame of the document's memory does: walked whole, for every argument.
-/
import Derived.Test.YtpplclenokfpeaaDoorRefMem
import Derived.Laws.BytesString
namespace Go.Proofs.YtpplclenokfpeaaDoor
open Go.RowKit
/-- The text of n bytes from a place on. -/
def textF (B : Nat → Int) (a n : Nat) : ByteArray := ((List.range n).map fun j => B (a + j)).foldl (fun r n => r.push (UInt8.ofNat n.toNat)) ByteArray.empty
/-- A piece of memory as a text. -/
theorem conv_mem {T E : TypeId} {w : World} {p q : Nat} {B : Nat → Int} (hm : MemAt T E w p q B) (a n c : Nat) (h : a + n ≤ 32768) :
    (convert 56 9 (.slice (some ⟨q, a, none⟩) n c)).run Tryd.prog w = .ok (.string (textF B a n)) w := by
  rw [run_convert_bytes_string _ 56 9 5 _ _ _ (by kernel_rfl) (by kernel_rfl) (by kernel_rfl)]
  have hl : (((List.range n).map fun j => B (a + j)).map (Value.int .u8)).length = n := by simp
  have hr := run_loadCells_list (P := Tryd.prog) w ⟨q, a, none⟩ (((List.range n).map fun j => B (a + j)).map (Value.int .u8)) (by
    intro j v hj
    have hlt : j < n := by
      have := (List.getElem?_eq_some_iff.1 hj).1
      simpa using this
    simp [hlt] at hj
    subst hj
    rw [show (⟨q, a, none⟩ : Addr).add j = ⟨q, a + j, none⟩ by simp [Addr.add]]
    exact hm.at (by omega))
  rw [hl] at hr
  rw [run_bytesToString _ _ _ _ _ hr]
  rfl
/-- A frame's text; that of none is empty. -/
def frameF (B : Nat → Int) (f : Int) : ByteArray := if 0 ≤ f ∧ f < 128 then textF B (f.toNat * 256) 256 else ByteArray.empty
end Go.Proofs.YtpplclenokfpeaaDoor
