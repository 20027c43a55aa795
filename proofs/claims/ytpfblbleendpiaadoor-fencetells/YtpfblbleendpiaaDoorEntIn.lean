/-
  A row of entries that comes in: what it holds; what it reads as behind the call.
-/
import Derived.Test.YtpfblbleendpiaaDoorTlDoc
import Derived.Test.YtpfblbleendpiaaDoorShell
import Derived.Test.YtpfblbleendpiaaDoorBits
import Derived.Deep.Slices
import Derived.Carry
import Derived.WideShapes
namespace Go.Proofs.YtpfblbleendpiaaDoor
open Go.ChangeShapes Go.WideShapes Go.ChangeAt Go.RowKit Go.ChangeMaps
theorem list9n {α : Type} {l : List α} (h : l.length = 9) : ∃ a b c d e f g i j, l = [a, b, c, d, e, f, g, i, j] := by
  match l, h with
  | [a, b, c, d, e, f, g, i, j], _ => exact ⟨a, b, c, d, e, f, g, i, j, rfl⟩
theorem cellsIn : Tryd.prog.cellsOf 3 = 1 := by kernel_rfl
theorem cellsBn : Tryd.prog.cellsOf 4 = 1 := by kernel_rfl
theorem cellsEnt : Tryd.prog.cellsOf 47 = 9 := by kernel_rfl
theorem plain_addN (b o n : Nat) : (⟨b, o, none⟩ : Addr).add n = ⟨b, o + n, none⟩ := by unfold Addr.add; split <;> simp_all
set_option maxRecDepth 100000 in
set_option maxHeartbeats 2000000 in
theorem ent_in {H : Type} {enc : TypeId × Value → H} {w : World} {base n : Nat} {sp : Nat → Bool} {held : Bool} {cs : List Value} {x : DataW H × List MemPlace} (hl : cs.length = 9) (h : DataW.trod enc Tryd.prog w base sp held n 47 cs = some x) : ∃ e : EntM, cs = entA e := by
  obtain ⟨c0, c1, c2, c3, c4, c5, c6, c7, c8, rfl⟩ := list9n hl
  obtain ⟨xs, m, _, hx, _, hlen, hel⟩ := DataW.trod_struct Tryd.underlying47 h
  obtain ⟨y0, y1, y2, y3, y4, y5, y6, y7, y8, rfl⟩ := list9n (show xs.length = 9 from hlen)
  obtain ⟨a0, e0, _⟩ := DataW.trod_bool Tryd.underlying4 (by simpa using hel 0 _ rfl)
  obtain ⟨a1, e1, _⟩ := DataW.trod_bool Tryd.underlying4 (by simpa using hel 1 _ rfl)
  obtain ⟨a2, e2, _, _⟩ := DataW.trod_int Tryd.underlying3 (by simpa using hel 2 _ rfl)
  obtain ⟨a3, e3, _, _⟩ := DataW.trod_int Tryd.underlying3 (by simpa using hel 3 _ rfl)
  obtain ⟨a4, e4, _, _⟩ := DataW.trod_int Tryd.underlying3 (by simpa using hel 4 _ rfl)
  obtain ⟨a5, e5, _, _⟩ := DataW.trod_int Tryd.underlying3 (by simpa using hel 5 _ rfl)
  obtain ⟨a6, e6, _, _⟩ := DataW.trod_int Tryd.underlying3 (by simpa using hel 6 _ rfl)
  obtain ⟨a7, e7, _, _⟩ := DataW.trod_int Tryd.underlying3 (by simpa using hel 7 _ rfl)
  obtain ⟨a8, e8, _, _⟩ := DataW.trod_int Tryd.underlying3 (by simpa using hel 8 _ rfl)
  simp [cellsIn, cellsBn] at e0 e1 e2 e3 e4 e5 e6 e7 e8
  subst e0 e1 e2 e3 e4 e5 e6 e7 e8
  exact ⟨⟨a0, a1, a2, a3, a4, a5, a6, a7, a8⟩, rfl⟩
/-- A row of entries that comes in. -/
structure RowEn (w : World) (q : Option Addr) (n : Nat) (L : Nat → EntM) : Prop where
  lies : n = 0 ∨ ∃ b o, q = some ⟨b, o, none⟩ ∧ ∀ j, j < n → w.rangeAt b (o + j * 9) (entA (L j))
theorem RowEn.kept {w w' : World} {q : Option Addr} {n : Nat} {L : Nat → EntM} (h : RowEn w q n L) (k : Kept w w') : RowEn w' q n L := by
  refine ⟨?_⟩
  rcases h.lies with h | ⟨b, o, e, h⟩
  · exact .inl h
  · exact .inr ⟨b, o, e, fun j hj i v hv => k.cell (h j hj i v hv)⟩
/-- The same, whatever it is. -/
def RowN (w : World) (v : Value) : Prop := ∃ q n cap L, v = .slice q n cap ∧ RowEn w q n L
set_option maxRecDepth 100000 in
theorem open_ents {H : Type} {enc : TypeId × Value → H} {w : World} {r : Reach} {b0 base : Nat} {sp : Nat → Bool} {held : Bool} {v : Value} {d : DataW H} {p : List MemPlace}
    (hv : Value.okWide Tryd.prog w r b0 22 v) (h : DataW.Trod enc Tryd.prog w base sp held 22 v d p) : RowN w v := by
  obtain ⟨a, len, cap, rfl⟩ := okWide_slice Tryd.underlying22 hv
  obtain ⟨fuel, hf⟩ := h
  rcases Go.Deep.open_slice Tryd.underlying22 hf with ⟨h0, _⟩ | ⟨a', len', cap', m, n, D, Pl, h0, hb, hl, hm, hmm, hx, hel⟩
  · obtain ⟨rfl, rfl, rfl⟩ : a = none ∧ len = 0 ∧ cap = 0 := by simpa [Value.cells] using h0
    exact ⟨none, 0, 0, fun _ => entNone, rfl, ⟨.inl rfl⟩⟩
  · obtain ⟨rfl, rfl, rfl⟩ : a = some a' ∧ len = len' ∧ cap = cap' := by simpa [Value.cells] using h0
    have hlm : len ≤ m := by rw [hmm]; split <;> omega
    by_cases hz : len = 0
    · subst hz
      exact ⟨some a', 0, cap, fun _ => entNone, rfl, ⟨.inl rfl⟩⟩
    · have each : ∀ i, i < len → ∃ s : EntM, ∀ j u, (entA s)[j]? = some u → w.cell? ((a'.add (i * 9)).add j) = some u := by
        intro i hi
        obtain ⟨cs', h1, h2⟩ := hel i (by omega)
        rw [cellsEnt] at h1
        obtain ⟨_, hlen, hcell⟩ := World.cells?_some h1
        obtain ⟨s, rfl⟩ := ent_in hlen h2
        exact ⟨s, fun j u hu => by
          have hj : j < (entA s).length := (List.getElem?_eq_some_iff.1 hu).1
          have hj9 : j < 9 := hj
          rw [hcell j (by simpa using hj9)]
          exact hu⟩
      have hsp : a'.spot = none := by
        obtain ⟨s, hs⟩ := each 0 (by omega)
        have := hs 0 _ rfl
        simpa [Addr.add] using World.cell?_spot this
      obtain ⟨b, o, s⟩ := a'
      simp only at hsp
      subst hsp
      obtain ⟨f, hf⟩ := Classical.axiomOfChoice (show ∀ i, ∃ s : EntM, i < len → w.rangeAt b (o + i * 9) (entA s) from fun i => by
        by_cases hi : i < len
        · obtain ⟨s, hs⟩ := each i hi
          refine ⟨s, fun _ j u hu => ?_⟩
          have := hs j u hu
          rw [plain_addN, plain_addN] at this
          exact this
        · exact ⟨entNone, fun h => absurd h hi⟩)
      exact ⟨_, len, cap, f, rfl, ⟨.inr ⟨b, o, rfl, fun j hj => hf j hj⟩⟩⟩
theorem carryN {H : Type} {enc : TypeId × Value → H} {W W' : World} {v : Value} {d : DataW H} {p : List MemPlace} {sp : Nat → Bool} (h : DataW.Trod enc Tryd.prog W 0 (fun _ => true) true 22 v d p) (hg : Kept W W') (hlt : ∀ x ∈ p, x.block < W.heap.size) (hsp : ∀ x ∈ p, sp x.block = true) :
    DataW.Trod enc Tryd.prog W' 0 sp true 22 v d p :=
  WideElems.Trod_stays (by kernel_rfl) (by kernel_rfl) (of_decide_eq_true (by kernel_rfl)) h (fun x hx => by
    cases x with
    | cell b o => exact World.cell?_of_block (w := W) (hg.same _ (hlt _ hx) id)
    | map b => exact hg.same _ (hlt _ hx) id) hsp
end Go.Proofs.YtpfblbleendpiaaDoor
