/-
  Entries of tables in memory, as the document's own call answers (Entry of the reference): walked whole, for every argument.
-/
import Derived.Test.YtpplclenokfpeaaDoorWkDoc
namespace Go.Proofs.YtpplclenokfpeaaDoor
open Go.RowKit
set_option maxHeartbeats 1000000 in
theorem rentry_any (f i : Int) {w : World} {p q : Nat} {B : Nat → Int} (hm : RefAt w p q B) :
    Calls Tryd.prog 62 #[.pointer (some ⟨p, 0, none⟩), .int .i64 f, .int .i64 i] w fun e w' => e = .returned (.tuple #[.int .u64 (entE B f i), .bool (entO f i)]) ∧ Kept w w' := by
  have hc := hm.cell
  unfold entE
  by_cases h : 0 ≤ f ∧ f < 128 ∧ 0 ≤ i ∧ i < 16
  · have ho : entO f i = true := decide_eq_true h
    rw [ho, cond_true]
    obtain ⟨h0, h1, h2, h3⟩ := h
    have l1 : ¬ (128 : Int) ≤ f := by omega
    have l2 : ¬ (15 : Int) < i := by omega
    have l3 : ¬ f < 0 := by omega
    have l4 : ¬ i < 0 := by omega
    have hr := rread_any (f * 256 + 8 * i).toNat 8 (by omega) (by omega) w p q B hm
    rw [show (((f * 256 + 8 * i).toNat : Nat) : Int) = f * 256 + 8 * i by omega] at hr
    have b0 : 0 ≤ f * 256 + 8 * i := by omega
    have b1 : f * 256 + 8 * i < 32768 := by omega
    clear ho hm
    go_enter Tryd.func62, Tryd.ntmps62
    go_wp2_with fail
    refine hr.mono ?_
    rintro e w' ⟨rfl, k⟩
    go_wp2
    go_ret2
    exact ⟨rfl, k⟩
  · have ho : entO f i = false := decide_eq_false h
    rw [ho, cond_false]
    clear ho hm
    go_enter Tryd.func62, Tryd.ntmps62
    go_wp2_with fail
    all_goals
      go_ret2
      exact ⟨rfl, Only.refl _ _⟩
end Go.Proofs.YtpplclenokfpeaaDoor
