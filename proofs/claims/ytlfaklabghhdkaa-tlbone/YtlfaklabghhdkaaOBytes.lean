/-
  A row of bytes that comes in: what it holds; behind a call that keeps what was there.
-/
import Derived.Test.YtlfaklabghhdkaaMemBase
import Derived.Test.YtlfaklabghhdkaaShell
import Derived.Test.YtlfaklabghhdkaaRowIs
import Derived.Deep.Slices
import Derived.Carry
import Derived.WideShapes
namespace Go.Proofs.Ytlfaklabghhdkaa
open Go.ChangeShapes Go.WideShapes Go.ChangeAt Go.RowKit Go.ChangeMaps
/-- A row of bytes that comes in. -/
structure RowU (w : World) (q : Option Addr) (n : Nat) (L : Nat → Int) : Prop where
  lies : n = 0 ∨ ∃ b o, q = some ⟨b, o, none⟩ ∧ ∀ j, j < n → w.cell? ⟨b, o + j, none⟩ = some (.int .u8 (L j))
  bd : ∀ j, j < n → 0 ≤ L j ∧ L j ≤ 255
theorem cell_ltu {w : World} {b o : Nat} {v : Value} (h : w.cell? ⟨b, o, none⟩ = some v) : b < w.heap.size := by
  apply Classical.byContradiction
  intro hn
  rw [World.cell?] at h
  simp [Array.getElem?_eq_none (show w.heap.size ≤ b by omega)] at h
def RowB (w : World) (v : Value) : Prop := ∃ q n cap L, v = .slice q n cap ∧ RowU w q n L
theorem cellsW8 : Try.prog.cellsOf 5 = 1 := by kernel_rfl
theorem plain_add8 (b o n : Nat) : (⟨b, o, none⟩ : Addr).add n = ⟨b, o + n, none⟩ := by unfold Addr.add; split <;> simp_all
set_option maxRecDepth 100000 in
theorem open_bytes {H : Type} {enc : TypeId × Value → H} {w : World} {r : Reach} {b0 base : Nat} {sp : Nat → Bool} {held : Bool} {v : Value} {d : DataW H} {p : List MemPlace}
    (hv : Value.okWide Try.prog w r b0 43 v) (h : DataW.Trod enc Try.prog w base sp held 43 v d p) : RowB w v := by
  obtain ⟨a, len, cap, rfl⟩ := okWide_slice Try.underlying43 hv
  obtain ⟨fuel, hf⟩ := h
  rcases Go.Deep.open_slice Try.underlying43 hf with ⟨h0, _⟩ | ⟨a', len', cap', m, n, D, Pl, h0, hb, hl, hm, hmm, hx, hel⟩
  · obtain ⟨rfl, rfl, rfl⟩ : a = none ∧ len = 0 ∧ cap = 0 := by simpa [Value.cells] using h0
    exact ⟨none, 0, 0, fun _ => 0, rfl, .inl rfl, fun j hj => by omega⟩
  · obtain ⟨rfl, rfl, rfl⟩ : a = some a' ∧ len = len' ∧ cap = cap' := by simpa [Value.cells] using h0
    have hlm : len ≤ m := by rw [hmm]; split <;> omega
    by_cases hz : len = 0
    · subst hz
      exact ⟨some a', 0, cap, fun _ => 0, rfl, .inl rfl, fun j hj => by omega⟩
    · have each : ∀ i, i < len → ∃ x : Int, w.cell? (a'.add i) = some (.int .u8 x) ∧ 0 ≤ x ∧ x ≤ 255 := by
        intro i hi
        obtain ⟨cs', h1, h2⟩ := hel i (by omega)
        rw [cellsW8] at h1
        obtain ⟨_, hlen, hcell⟩ := World.cells?_some h1
        obtain ⟨a0, e0, _, w0⟩ := DataW.trod_int Try.underlying5 h2
        subst e0
        have hc := hcell 0 (by decide)
        have h00 : ∀ a : Addr, a.add 0 = a := fun a => by unfold Addr.add; split <;> simp_all
        rw [h00, Nat.mul_one] at hc
        exact ⟨a0, hc, (u8_of_wf w0).1, (u8_of_wf w0).2⟩
      have hsp : a'.spot = none := by
        obtain ⟨x, hx, _⟩ := each 0 (by omega)
        simpa [Addr.add] using World.cell?_spot hx
      obtain ⟨b, o, s⟩ := a'
      simp only at hsp
      subst hsp
      obtain ⟨f, hf⟩ := Classical.axiomOfChoice (show ∀ i, ∃ x : Int, i < len → w.cell? ⟨b, o + i, none⟩ = some (.int .u8 x) ∧ 0 ≤ x ∧ x ≤ 255 from fun i => by
        by_cases hi : i < len
        · obtain ⟨x, k0, hu⟩ := each i hi
          rw [plain_add8] at k0
          exact ⟨x, fun _ => ⟨k0, hu⟩⟩
        · exact ⟨0, fun h => absurd h hi⟩)
      exact ⟨_, len, cap, f, rfl, .inr ⟨b, o, rfl, fun j hj => (hf j hj).1⟩, fun j hj => (hf j hj).2⟩
theorem carryB {H : Type} {enc : TypeId × Value → H} {W W' : World} {v : Value} {d : DataW H} {p : List MemPlace} {sp : Nat → Bool} (h : DataW.Trod enc Try.prog W 0 (fun _ => true) true 43 v d p) (hg : Kept W W') (hlt : ∀ x ∈ p, x.block < W.heap.size) (hsp : ∀ x ∈ p, sp x.block = true) :
    DataW.Trod enc Try.prog W' 0 sp true 43 v d p :=
  WideElems.Trod_stays (by kernel_rfl) (by kernel_rfl) (of_decide_eq_true (by kernel_rfl)) h (fun x hx => by
    cases x with
    | cell b o => exact World.cell?_of_block (w := W) (hg.same _ (hlt _ hx) id)
    | map b => exact hg.same _ (hlt _ hx) id) hsp
end Go.Proofs.Ytlfaklabghhdkaa
