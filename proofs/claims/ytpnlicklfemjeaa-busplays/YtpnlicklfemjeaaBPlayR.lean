/-
  What statement BusPlays asks, for every row; a row of steps that comes in: its numbers and texts; what it reads as behind the call.
-/
import Derived.Test.YtpnlicklfemjeaaBPlayW
import Derived.Test.YtpnlicklfemjeaaShell
import Derived.Deep.Slices
import Derived.Carry
import Derived.WideShapes
namespace Go.Proofs.Ytpnlicklfemjeaa
open Go.ChangeShapes Go.WideShapes Go.ChangeAt Go.RowKit Go.ChangeMaps
set_option maxRecDepth 100000 in
set_option maxHeartbeats 1000000 in
theorem bplay_long (q : Option Addr) (n cap : Nat) (hn : 40 < n) (W : World) :
    Calls Try.prog 3 #[.slice q n cap] W fun e w' => e = .returned (.bool true) ∧ Kept W w' := by
  have hl : (40 : Int) < (n : Int) := by omega
  go_enter Try.func3, Try.ntmps3
  go_wp2_with fail
  refine (known7_any _).mono ?_
  rintro e w1 ⟨rfl, k1⟩
  go_wp2
  go_ret
  exact ⟨rfl, k1⟩
set_option maxRecDepth 100000 in
set_option maxHeartbeats 1000000 in
theorem bplay_nil (q : Option Addr) (cap : Nat) (W : World) :
    Calls Try.prog 3 #[.slice q 0 cap] W fun e w' => e = .returned (.bool true) ∧ Kept W w' := by
  go_enter Try.func3, Try.ntmps3
  go_wp2_with fail
  refine (known7_any _).mono ?_
  rintro e w1 ⟨rfl, k1⟩
  go_wp2_with fail
  refine (bnew_in _).mono ?_
  rintro e w2 ⟨b, rfl, p2, k2⟩
  go_wp2_with fail
  refine (rnew_any _).mono ?_
  rintro e w3 ⟨pr, qr, rfl, m3, hpr, hqr, k3⟩
  go_wp2_with fail
  refine (rbnew_any _ pr qr _ m3).mono ?_
  rintro e w4 ⟨r, rfl, r4, hr4, k4⟩
  go_wp2
  refine wp_loop_rounds 1 ?_
  rw [rounds_succ]
  go_wp2
  go_ret
  exact ⟨rfl, ((k1.then k2).then k3).then k4⟩
/-- What a row of steps that comes in looks like. -/
def RowS (w : World) (v : Value) : Prop := (∃ q cap, v = .slice q 0 cap) ∨ ∃ (b o cap : Nat) (L : List Stp), v = .slice (some ⟨b, o, none⟩) L.length cap ∧ LiesS w b o L ∧ ∀ x ∈ L, U x.pl ∧ U x.v
theorem bplay_any (v : Value) {W : World} (h : RowS W v) :
    Calls Try.prog 3 #[v] W fun e w' => e = .returned (.bool true) ∧ Kept W w' := by
  rcases h with ⟨q, cap, rfl⟩ | ⟨b, o, cap, L, rfl, hC, hU⟩
  · exact bplay_nil q cap W
  · by_cases hL : L.length ≤ 40
    · exact bplay_short L hL hU b o cap W hC
    · exact bplay_long _ _ cap (by omega) W
theorem list5 {α : Type} {l : List α} (h : l.length = 5) : ∃ a b c d e, l = [a, b, c, d, e] := by
  match l, h with
  | [a, b, c, d, e], _ => exact ⟨a, b, c, d, e, rfl⟩
theorem cellsStp : Try.prog.cellsOf 32 = 5 := by kernel_rfl
theorem cellsI : Try.prog.cellsOf 3 = 1 := by kernel_rfl
theorem cellsU : Try.prog.cellsOf 30 = 1 := by kernel_rfl
theorem cellsS : Try.prog.cellsOf 9 = 1 := by kernel_rfl
theorem plain_add (b o n : Nat) : (⟨b, o, none⟩ : Addr).add n = ⟨b, o + n, none⟩ := by unfold Addr.add; split <;> simp_all
set_option maxRecDepth 100000 in
theorem open_steps {H : Type} {enc : TypeId × Value → H} {w : World} {r : Reach} {b0 base : Nat} {sp : Nat → Bool} {held : Bool} {v : Value} {d : DataW H} {p : List MemPlace}
    (hv : Value.okWide Try.prog w r b0 22 v) (h : DataW.Trod enc Try.prog w base sp held 22 v d p) : RowS w v := by
  obtain ⟨a, len, cap, rfl⟩ := okWide_slice Try.underlying22 hv
  obtain ⟨fuel, hf⟩ := h
  rcases Go.Deep.open_slice Try.underlying22 hf with ⟨h0, _⟩ | ⟨a', len', cap', m, n, D, Pl, h0, hb, hl, hm, hmm, hx, hel⟩
  · obtain ⟨rfl, rfl, rfl⟩ : a = none ∧ len = 0 ∧ cap = 0 := by simpa [Value.cells] using h0
    exact .inl ⟨none, 0, rfl⟩
  · obtain ⟨rfl, rfl, rfl⟩ : a = some a' ∧ len = len' ∧ cap = cap' := by simpa [Value.cells] using h0
    have hlm : len ≤ m := by rw [hmm]; split <;> omega
    by_cases hz : len = 0
    · subst hz
      exact .inl ⟨some a', cap, rfl⟩
    · have each : ∀ i, i < len → ∃ x : Stp, (w.cell? (a'.add (i * 5)) = some (.int .i64 x.what) ∧ w.cell? ((a'.add (i * 5)).add 1) = some (.int .i64 x.n) ∧ w.cell? ((a'.add (i * 5)).add 2) = some (.int .u64 x.pl) ∧ w.cell? ((a'.add (i * 5)).add 3) = some (.int .u64 x.v) ∧ w.cell? ((a'.add (i * 5)).add 4) = some (.string x.b)) ∧ U x.pl ∧ U x.v := by
        intro i hi
        obtain ⟨cs', h1, h2⟩ := hel i (by omega)
        rw [cellsStp] at h1
        obtain ⟨_, hlen, hcell⟩ := World.cells?_some h1
        obtain ⟨c0, c1, c2, c3, c4, rfl⟩ := list5 hlen
        obtain ⟨xs, n, _, hx, _, hlen, hel⟩ := DataW.trod_struct Try.underlying32 h2
        obtain ⟨y0, y1, y2, y3, y4, rfl⟩ := list5 (show xs.length = 5 from hlen)
        obtain ⟨a0, e0, _, w0⟩ := DataW.trod_int Try.underlying3 (by simpa using hel 0 _ rfl)
        obtain ⟨a1, e1, _, w1⟩ := DataW.trod_int Try.underlying3 (by simpa using hel 1 _ rfl)
        obtain ⟨a2, e2, _, w2⟩ := DataW.trod_int Try.underlying30 (by simpa using hel 2 _ rfl)
        obtain ⟨a3, e3, _, w3⟩ := DataW.trod_int Try.underlying30 (by simpa using hel 3 _ rfl)
        obtain ⟨a4, e4, _, w4⟩ := DataW.trod_string Try.underlying9 (by simpa using hel 4 _ rfl)
        simp [cellsI, cellsU, cellsS] at e0 e1 e2 e3 e4
        subst e0 e1 e2 e3 e4
        exact ⟨⟨a0, a1, a2, a3, a4⟩, ⟨hcell 0 (by decide), hcell 1 (by decide), hcell 2 (by decide), hcell 3 (by decide), hcell 4 (by decide)⟩, U_of_wf w2, U_of_wf w3⟩
      have hsp : a'.spot = none := by
        obtain ⟨x, ⟨hx, _⟩, _⟩ := each 0 (by omega)
        simpa [Addr.add] using World.cell?_spot hx
      obtain ⟨b, o, s⟩ := a'
      simp only at hsp
      subst hsp
      obtain ⟨f, hf⟩ := Classical.axiomOfChoice (show ∀ i, ∃ x : Stp, i < len → FiveAt w b (o + i * 5) x ∧ U x.pl ∧ U x.v from fun i => by
        by_cases hi : i < len
        · obtain ⟨x, ⟨k0, k1, k2, k3, k4⟩, hu⟩ := each i hi
          rw [plain_add] at k0 k1 k2 k3 k4
          rw [plain_add] at k1 k2 k3 k4
          exact ⟨x, fun _ => ⟨⟨k0, k1, k2, k3, k4⟩, hu⟩⟩
        · exact ⟨⟨0, 0, 0, 0, ByteArray.empty⟩, fun h => absurd h hi⟩)
      refine .inr ⟨b, o, cap, (List.range len).map f, by simp, fun j x hx => ?_, fun x hx => ?_⟩
      · rw [List.getElem?_map, Option.map_eq_some_iff] at hx
        obtain ⟨i, hi, rfl⟩ := hx
        obtain ⟨hlt, rfl⟩ : j < len ∧ j = i := by
          have := List.getElem?_eq_some_iff.1 hi
          obtain ⟨h1, h2⟩ := this
          simp at h1 h2
          exact ⟨h1, h2⟩
        exact (hf j hlt).1
      · obtain ⟨i, hi, rfl⟩ := List.mem_map.1 hx
        exact (hf i (List.mem_range.1 hi)).2
theorem carryS {H : Type} {enc : TypeId × Value → H} {W W' : World} {v : Value} {d : DataW H} {p : List MemPlace} {sp : Nat → Bool} (h : DataW.Trod enc Try.prog W 0 (fun _ => true) true 22 v d p) (hg : Kept W W') (hlt : ∀ x ∈ p, x.block < W.heap.size) (hsp : ∀ x ∈ p, sp x.block = true) :
    DataW.Trod enc Try.prog W' 0 sp true 22 v d p :=
  WideElems.Trod_stays (by kernel_rfl) (by kernel_rfl) (of_decide_eq_true (by kernel_rfl)) h (fun x hx => by
    cases x with
    | cell b o => exact World.cell?_of_block (w := W) (hg.same _ (hlt _ hx) id)
    | map b => exact hg.same _ (hlt _ hx) id) hsp
end Go.Proofs.Ytpnlicklfemjeaa
