/-
  What the Frame of the document's memory does: walked whole, for every argument.
-/
import Derived.Test.YtpnlicklfemjeaaRefMem
import Derived.Laws.BytesString
namespace Go.Proofs.Ytpnlicklfemjeaa
open Go.RowKit
/-- The text of n bytes from a place on. -/
def textF (B : Nat → Int) (a n : Nat) : ByteArray := ((List.range n).map fun j => B (a + j)).foldl (fun r n => r.push (UInt8.ofNat n.toNat)) ByteArray.empty
/-- A piece of memory as a text. -/
theorem conv_mem {T E : TypeId} {w : World} {p q : Nat} {B : Nat → Int} (hm : MemAt T E w p q B) (a n c : Nat) (h : a + n ≤ 32768) :
    (convert 67 9 (.slice (some ⟨q, a, none⟩) n c)).run Try.prog w = .ok (.string (textF B a n)) w := by
  rw [run_convert_bytes_string _ 67 9 5 _ _ _ (by kernel_rfl) (by kernel_rfl) (by kernel_rfl)]
  have hl : (((List.range n).map fun j => B (a + j)).map (Value.int .u8)).length = n := by simp
  have hr := run_loadCells_list (P := Try.prog) w ⟨q, a, none⟩ (((List.range n).map fun j => B (a + j)).map (Value.int .u8)) (by
    intro j v hj
    have hlt : j < n := by
      have := (List.getElem?_eq_some_iff.1 hj).1
      simpa using this
    simp [hlt] at hj
    subst hj
    rw [show (⟨q, a, none⟩ : Addr).add j = ⟨q, a + j, none⟩ by simp [Addr.add]]
    exact hm.at (by omega))
  rw [hl] at hr
  rw [run_bytesToString _ _ _ _ _ hr]
  rfl
/-- A frame's text; that of none is empty. -/
def frameF (B : Nat → Int) (f : Int) : ByteArray := if 0 ≤ f ∧ f < 128 then textF B (f.toNat * 256) 256 else ByteArray.empty
set_option maxHeartbeats 1000000 in
theorem rframe_in (f : Nat) (h : f < 128) (w : World) (p q : Nat) (B : Nat → Int) (hm : RefAt w p q B) :
    Calls Try.prog 27 #[.pointer (some ⟨p, 0, none⟩), .int .i64 (f : Int)] w fun e w' => e = .returned (.string (textF B (f * 256) 256)) ∧ Kept w w' := by
  have hc := hm.cell
  have hv := fun c => conv_mem hm (f * 256) 256 c (by omega)
  go_enter Try.func27, Try.ntmps27
  have hl : (f + 1) * 256 - f * 256 = 256 := by omega
  clear hm
  go_wp2
  go_ret
  exact ⟨rfl, Only.refl _ _⟩
set_option maxHeartbeats 1000000 in
theorem rframe_out (f : Int) (h : ¬ (0 ≤ f ∧ f < 128)) (w : World) (p q : Nat) (B : Nat → Int) (hm : RefAt w p q B) :
    Calls Try.prog 27 #[.pointer (some ⟨p, 0, none⟩), .int .i64 f] w fun e w' => e = .returned (.string ByteArray.empty) ∧ Kept w w' := by
  have hc := hm.cell
  clear hm
  by_cases h0 : f < 0
  all_goals
    go_enter Try.func27, Try.ntmps27
    go_wp2
    go_ret
    exact ⟨rfl, Only.refl _ _⟩
theorem rframe_any (f : Int) (w : World) (p q : Nat) (B : Nat → Int) (hm : RefAt w p q B) :
    Calls Try.prog 27 #[.pointer (some ⟨p, 0, none⟩), .int .i64 f] w fun e w' => e = .returned (.string (frameF B f)) ∧ Kept w w' := by
  unfold frameF
  by_cases h : 0 ≤ f ∧ f < 128
  · rw [if_pos h]
    have e := rframe_in f.toNat (by omega) w p q B hm
    rwa [show ((f.toNat : Nat) : Int) = f by omega] at e
  · rw [if_neg h]; exact rframe_out f h w p q B hm
end Go.Proofs.Ytpnlicklfemjeaa
