/-
  A row of words that comes in: its numbers; what it reads as behind the call.
-/
import Derived.Test.YtpplclenokfpeaaDoorTBoth12
import Derived.Test.YtpplclenokfpeaaDoorShell
import Derived.Test.YtpplclenokfpeaaDoorBits
import Derived.Deep.Slices
import Derived.Carry
import Derived.WideShapes
namespace Go.Proofs.YtpplclenokfpeaaDoor
open Go.ChangeShapes Go.WideShapes Go.ChangeAt Go.RowKit Go.ChangeMaps
theorem list2p {α : Type} {l : List α} (h : l.length = 2) : ∃ a b, l = [a, b] := by
  match l, h with
  | [a, b], _ => exact ⟨a, b, rfl⟩
theorem cellsPut : Tryd.prog.cellsOf 67 = 2 := by kernel_rfl
theorem cellsPU : Tryd.prog.cellsOf 23 = 1 := by kernel_rfl
theorem plain_addP (b o n : Nat) : (⟨b, o, none⟩ : Addr).add n = ⟨b, o + n, none⟩ := by unfold Addr.add; split <;> simp_all
set_option maxRecDepth 100000 in
theorem open_puts {H : Type} {enc : TypeId × Value → H} {w : World} {r : Reach} {b0 base : Nat} {sp : Nat → Bool} {held : Bool} {v : Value} {d : DataW H} {p : List MemPlace}
    (hv : Value.okWide Tryd.prog w r b0 22 v) (h : DataW.Trod enc Tryd.prog w base sp held 22 v d p) : RowP w v := by
  obtain ⟨a, len, cap, rfl⟩ := okWide_slice Tryd.underlying22 hv
  obtain ⟨fuel, hf⟩ := h
  rcases Go.Deep.open_slice Tryd.underlying22 hf with ⟨h0, _⟩ | ⟨a', len', cap', m, n, D, Pl, h0, hb, hl, hm, hmm, hx, hel⟩
  · obtain ⟨rfl, rfl, rfl⟩ : a = none ∧ len = 0 ∧ cap = 0 := by simpa [Value.cells] using h0
    exact .inl ⟨none, 0, rfl⟩
  · obtain ⟨rfl, rfl, rfl⟩ : a = some a' ∧ len = len' ∧ cap = cap' := by simpa [Value.cells] using h0
    have hlm : len ≤ m := by rw [hmm]; split <;> omega
    by_cases hz : len = 0
    · subst hz
      exact .inl ⟨some a', cap, rfl⟩
    · have each : ∀ i, i < len → ∃ x : Ptw, (w.cell? (a'.add (i * 2)) = some (.int .u64 x.a) ∧ w.cell? ((a'.add (i * 2)).add 1) = some (.int .u64 x.v)) ∧ U x.a ∧ U x.v := by
        intro i hi
        obtain ⟨cs', h1, h2⟩ := hel i (by omega)
        rw [cellsPut] at h1
        obtain ⟨_, hlen, hcell⟩ := World.cells?_some h1
        obtain ⟨c0, c1, rfl⟩ := list2p hlen
        obtain ⟨xs, n, _, hx, _, hlen, hel⟩ := DataW.trod_struct Tryd.underlying67 h2
        obtain ⟨y0, y1, rfl⟩ := list2p (show xs.length = 2 from hlen)
        obtain ⟨a0, e0, _, w0⟩ := DataW.trod_int Tryd.underlying23 (by simpa using hel 0 _ rfl)
        obtain ⟨a1, e1, _, w1⟩ := DataW.trod_int Tryd.underlying23 (by simpa using hel 1 _ rfl)
        simp [cellsPU] at e0 e1
        subst e0 e1
        exact ⟨⟨a0, a1⟩, ⟨hcell 0 (by decide), hcell 1 (by decide)⟩, U_of_wf w0, U_of_wf w1⟩
      have hsp : a'.spot = none := by
        obtain ⟨x, ⟨hx, _⟩, _⟩ := each 0 (by omega)
        simpa [Addr.add] using World.cell?_spot hx
      obtain ⟨b, o, s⟩ := a'
      simp only at hsp
      subst hsp
      obtain ⟨f, hf⟩ := Classical.axiomOfChoice (show ∀ i, ∃ x : Ptw, i < len → TwoP w b (o + i * 2) x ∧ U x.a ∧ U x.v from fun i => by
        by_cases hi : i < len
        · obtain ⟨x, ⟨k0, k1⟩, hu⟩ := each i hi
          rw [plain_addP] at k0 k1
          rw [plain_addP] at k1
          exact ⟨x, fun _ => ⟨⟨k0, k1⟩, hu⟩⟩
        · exact ⟨⟨0, 0⟩, fun h => absurd h hi⟩)
      refine .inr ⟨b, o, cap, (List.range len).map f, by simp, fun j x hx => ?_, fun x hx => ?_⟩
      · rw [List.getElem?_map, Option.map_eq_some_iff] at hx
        obtain ⟨i, hi, rfl⟩ := hx
        obtain ⟨hlt, rfl⟩ : j < len ∧ j = i := by
          have := List.getElem?_eq_some_iff.1 hi
          obtain ⟨h1, h2⟩ := this
          simp at h1 h2
          exact ⟨h1, h2⟩
        exact (hf j hlt).1
      · obtain ⟨i, hi, rfl⟩ := List.mem_map.1 hx
        exact (hf i (List.mem_range.1 hi)).2
theorem carryP {H : Type} {enc : TypeId × Value → H} {W W' : World} {v : Value} {d : DataW H} {p : List MemPlace} {sp : Nat → Bool} (h : DataW.Trod enc Tryd.prog W 0 (fun _ => true) true 22 v d p) (hg : Kept W W') (hlt : ∀ x ∈ p, x.block < W.heap.size) (hsp : ∀ x ∈ p, sp x.block = true) :
    DataW.Trod enc Tryd.prog W' 0 sp true 22 v d p :=
  WideElems.Trod_stays (by kernel_rfl) (by kernel_rfl) (of_decide_eq_true (by kernel_rfl)) h (fun x hx => by
    cases x with
    | cell b o => exact World.cell?_of_block (w := W) (hg.same _ (hlt _ hx) id)
    | map b => exact hg.same _ (hlt _ hx) id) hsp
end Go.Proofs.YtpplclenokfpeaaDoor
