/-
  A row of instructions that comes in: its numbers; what it reads as behind the call.
-/
import Derived.Test.YtdogjmimjjmmaaaDoorERows
import Derived.Test.YtdogjmimjjmmaaaDoorShell
import Derived.Deep.Slices
import Derived.Carry
import Derived.WideShapes
namespace Go.Proofs.YtdogjmimjjmmaaaDoor
open Go.ChangeShapes Go.WideShapes Go.ChangeAt Go.RowKit Go.ChangeMaps
theorem plain_add (b o n : Nat) : (⟨b, o, none⟩ : Addr).add n = ⟨b, o + n, none⟩ := by unfold Addr.add; split <;> simp_all
set_option maxRecDepth 100000 in
theorem open_insns {H : Type} {enc : TypeId × Value → H} {w : World} {r : Reach} {b0 base : Nat} {sp : Nat → Bool} {held : Bool} {v : Value} {d : DataW H} {p : List MemPlace}
    (hv : Value.okWide Tryd.prog w r b0 36 v) (h : DataW.Trod enc Tryd.prog w base sp held 36 v d p) : RowOf w v := by
  obtain ⟨a, len, cap, rfl⟩ := okWide_slice Tryd.underlying36 hv
  obtain ⟨fuel, hf⟩ := h
  rcases Go.Deep.open_slice Tryd.underlying36 hf with ⟨h0, _⟩ | ⟨a', len', cap', m, n, D, Pl, h0, hb, hl, hm, hmm, hx, hel⟩
  · obtain ⟨rfl, rfl, rfl⟩ : a = none ∧ len = 0 ∧ cap = 0 := by simpa [Value.cells] using h0
    exact .inl ⟨none, 0, rfl⟩
  · obtain ⟨rfl, rfl, rfl⟩ : a = some a' ∧ len = len' ∧ cap = cap' := by simpa [Value.cells] using h0
    have hlm : len ≤ m := by rw [hmm]; split <;> omega
    by_cases hz : len = 0
    · subst hz
      exact .inl ⟨some a', cap, rfl⟩
    · have each : ∀ i, i < len → ∃ x : Ins, w.cell? (a'.add (i * 6)) = some (.int .i64 x.op) ∧ w.cell? ((a'.add (i * 6)).add 1) = some (.int .i64 x.rd) ∧ w.cell? ((a'.add (i * 6)).add 2) = some (.int .i64 x.rs1) ∧ w.cell? ((a'.add (i * 6)).add 3) = some (.int .i64 x.rs2) ∧ w.cell? ((a'.add (i * 6)).add 4) = some (.int .i64 x.imm) ∧ w.cell? ((a'.add (i * 6)).add 5) = some (.int .i64 x.csr) := by
        intro i hi
        obtain ⟨cs', h1, h2⟩ := hel i (by omega)
        rw [cells23] at h1
        obtain ⟨_, hlen, hcell⟩ := World.cells?_some h1
        obtain ⟨c0, c1, c2, c3, c4, c5, rfl⟩ := list6 hlen
        obtain ⟨xs, n, _, hx, _, hlen, hel⟩ := DataW.trod_struct Tryd.underlying23 h2
        obtain ⟨y0, y1, y2, y3, y4, y5, rfl⟩ := list6 (show xs.length = 6 from hlen)
        obtain ⟨a0, e0, _, w0⟩ := DataW.trod_int Tryd.underlying3 (by simpa using hel 0 _ rfl)
        obtain ⟨a1, e1, _, w1⟩ := DataW.trod_int Tryd.underlying3 (by simpa using hel 1 _ rfl)
        obtain ⟨a2, e2, _, w2⟩ := DataW.trod_int Tryd.underlying3 (by simpa using hel 2 _ rfl)
        obtain ⟨a3, e3, _, w3⟩ := DataW.trod_int Tryd.underlying3 (by simpa using hel 3 _ rfl)
        obtain ⟨a4, e4, _, w4⟩ := DataW.trod_int Tryd.underlying2 (by simpa using hel 4 _ rfl)
        obtain ⟨a5, e5, _, w5⟩ := DataW.trod_int Tryd.underlying3 (by simpa using hel 5 _ rfl)
        simp [cells3, cells2] at e0 e1 e2 e3 e4 e5
        subst e0 e1 e2 e3 e4 e5
        exact ⟨⟨a0, a1, a2, a3, a4, a5⟩, hcell 0 (by decide), hcell 1 (by decide), hcell 2 (by decide), hcell 3 (by decide), hcell 4 (by decide), hcell 5 (by decide)⟩
      have hsp : a'.spot = none := by
        obtain ⟨x, hx, _⟩ := each 0 (by omega)
        simpa [Addr.add] using World.cell?_spot hx
      obtain ⟨b, o, s⟩ := a'
      simp only at hsp
      subst hsp
      obtain ⟨f, hf⟩ := Classical.axiomOfChoice (show ∀ i, ∃ x : Ins, i < len → SixAt w b (o + i * 6) x from fun i => by
        by_cases hi : i < len
        · obtain ⟨x, k0, k1, k2, k3, k4, k5⟩ := each i hi
          rw [plain_add] at k0 k1 k2 k3 k4 k5
          rw [plain_add] at k1 k2 k3 k4 k5
          exact ⟨x, fun _ => ⟨k0, k1, k2, k3, k4, k5⟩⟩
        · exact ⟨⟨0, 0, 0, 0, 0, 0⟩, fun h => absurd h hi⟩)
      refine .inr ⟨b, o, cap, (List.range len).map f, by simp, fun j x hx => ?_⟩
      rw [List.getElem?_map, Option.map_eq_some_iff] at hx
      obtain ⟨i, hi, rfl⟩ := hx
      obtain ⟨hlt, rfl⟩ : j < len ∧ j = i := by
        have := List.getElem?_eq_some_iff.1 hi
        obtain ⟨h1, h2⟩ := this
        simp at h1 h2
        exact ⟨h1, h2⟩
      exact hf j hlt
theorem More.heap {a b : World} (h : More a b) {i : Nat} (hi : i < a.heap.size) : b.heap[i]? = a.heap[i]? := by
  have h3 := h.1.2.2 i hi
  cases ha : a.heap[i]? with
  | none => rw [Array.getElem?_eq_none_iff] at ha; omega
  | some o =>
    cases o with
    | cells c t fr => exact h.block ha
    | map es cl =>
      rw [ha] at h3
      cases hb : b.heap[i]? with
      | none => rw [hb] at h3; simp at h3
      | some o' => cases o' <;> rw [hb] at h3 <;> simp at h3; simp [h3]
    | _ => rw [ha] at h3; simpa using h3
theorem carry {H : Type} {enc : TypeId × Value → H} {W W' : World} {v : Value} {d : DataW H} {p : List MemPlace} {sp : Nat → Bool} (h : DataW.Trod enc Tryd.prog W 0 (fun _ => true) true 36 v d p) (hg : More W W') (hlt : ∀ x ∈ p, x.block < W.heap.size) (hsp : ∀ x ∈ p, sp x.block = true) :
    DataW.Trod enc Tryd.prog W' 0 sp true 36 v d p :=
  WideElems.Trod_stays (by kernel_rfl) (by kernel_rfl) (of_decide_eq_true (by kernel_rfl)) h (fun x hx => by
    cases x with
    | cell b o => exact World.cell?_of_block (w := W) (hg.heap (hlt _ hx))
    | map b => exact hg.heap (hlt _ hx)) hsp
end Go.Proofs.YtdogjmimjjmmaaaDoor
