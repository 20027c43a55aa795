/-
  The walk of statement WalkTells, for every row; a row of steps that comes in: its numbers; what it reads as behind the call.
-/
import Derived.Test.YtagfhfmaonoehaaWBoth
import Derived.Test.YtagfhfmaonoehaaShell
import Derived.Deep.Slices
import Derived.Carry
import Derived.WideShapes
namespace Go.Proofs.Ytagfhfmaonoehaa
open Go.ChangeShapes Go.WideShapes Go.ChangeAt Go.RowKit Go.ChangeMaps
theorem few_any (q : Option Addr) (n cap : Nat) (w : World) :
    Calls Try.prog 9 #[.slice q n cap] w fun e w' => e = .returned (.bool (decide (n ≤ 30))) ∧ w' = w := by
  by_cases h : n ≤ 30
  · have hl : (n : Int) ≤ 30 := by omega
    rw [decide_eq_true h]
    clear h
    go_enter Try.func9, Try.ntmps9
    go_wp2
    go_ret
    exact ⟨rfl, rfl⟩
  · have hl : ¬ (n : Int) ≤ 30 := by omega
    rw [decide_eq_false h]
    clear h
    go_enter Try.func9, Try.ntmps9
    go_wp2
    go_ret
    exact ⟨rfl, rfl⟩
set_option maxRecDepth 100000 in
set_option maxHeartbeats 1000000 in
theorem both_nil (q : Option Addr) (cap : Nat) (W : World) :
    Calls Try.prog 10 #[.slice q 0 cap] W fun e w' => ∃ pm qm pr qr B, e = .returned (.tuple #[.pointer (some ⟨pm, 0, none⟩), .pointer (some ⟨pr, 0, none⟩), .bool true]) ∧ Duo W w' pm qm pr qr B B := by
  go_enter Try.func10, Try.ntmps10
  go_wp2_with fail
  refine (mnew_any _).mono ?_
  rintro e w2 ⟨pm, qm, rfl, m2, hpm, hqm, k2⟩
  go_wp2_with fail
  refine (rnew_any _).mono ?_
  rintro e w3 ⟨pr, qr, rfl, r3, hpr, hqr, k3⟩
  have t3 : Duo W w3 pm qm pr qr (fun _ => 0) (fun _ => 0) := by
    have l := m2.lt
    exact ⟨m2.kept k3, r3, k2.then k3, hqm, Nat.le_trans k2.size hqr, by omega, by omega, by omega⟩
  clear k2 k3 m2 r3 hpm hqm hpr hqr
  go_wp2
  refine wp_loop_rounds 1 ?_
  rw [rounds_succ]
  go_wp2
  go_ret3
  exact ⟨pm, qm, pr, qr, _, rfl, t3⟩
/-- What a row of steps that comes in looks like. -/
def RowW (w : World) (v : Value) : Prop := (∃ q cap, v = .slice q 0 cap) ∨ ∃ (b o cap : Nat) (L : List Stw), v = .slice (some ⟨b, o, none⟩) L.length cap ∧ LiesW w b o L ∧ ∀ x ∈ L, U x.pl ∧ U x.e
theorem RowW.kept {w w' : World} {v : Value} (h : RowW w v) (g : Kept w w') : RowW w' v := by
  rcases h with h | ⟨b, o, cap, L, e, hL, hU⟩
  · exact .inl h
  · exact .inr ⟨b, o, cap, L, e, hL.kept g, hU⟩
theorem RowW.form {w : World} {v : Value} (h : RowW w v) : ∃ q n cap, v = .slice q n cap := by
  rcases h with ⟨q, cap, e⟩ | ⟨b, o, cap, L, e, _⟩
  · exact ⟨q, 0, cap, e⟩
  · exact ⟨_, _, _, e⟩
theorem both_row {W0 W : World} (hT : Tab11 W0) (k0 : Kept W0 W) {q : Option Addr} {n cap : Nat} (h : RowW W (.slice q n cap)) (hn : n ≤ 30) :
    Calls Try.prog 10 #[.slice q n cap] W fun e w' => ∃ pm qm pr qr B, e = .returned (.tuple #[.pointer (some ⟨pm, 0, none⟩), .pointer (some ⟨pr, 0, none⟩), .bool true]) ∧ Duo W w' pm qm pr qr B B := by
  rcases h with ⟨q', cap', e⟩ | ⟨b, o, cap', L, e, hL, hU⟩
  · cases e
    exact both_nil q cap W
  · cases e
    exact both_any hT k0 L hn hU b o cap hL
set_option maxRecDepth 10000 in
set_option maxHeartbeats 1000000 in
theorem wtells_any (v : Value) (root a f i : Int) {W : World} (h : RowW W v) (ha : U a) (hT : Tab11 W) :
    Calls Try.prog 3 #[v, .int .i64 root, .int .u64 a, .int .i64 f, .int .i64 i] W fun e w' => e = .returned (.bool true) ∧ Kept W w' := by
  obtain ⟨q, n, cap, rfl⟩ := h.form
  by_cases hn : n ≤ 30
  · go_enter Try.func3, Try.ntmps3
    go_wp2_with fail
    refine (known11_any hT (Only.refl _ W)).mono ?_
    rintro e w1 ⟨rfl, k1⟩
    go_wp2_with fail
    refine (few_any _ _ _ _).mono ?_
    rintro e w' ⟨rfl, rfl⟩
    rw [decide_eq_true hn]
    go_wp2_with fail
    refine (both_row hT k1 (h.kept k1) hn).mono ?_
    rintro e w2 ⟨pm, qm, pr, qr, B, rfl, t2⟩
    have hq1 : ((wkS B root a).e == (wkS B root a).e) = true := beq_self_eq_true _
    have hq2 : ((wkS B root a).c == (wkS B root a).c) = true := beq_self_eq_true _
    have hq3 : (entE B f i == entE B f i) = true := beq_self_eq_true _
    have hq4 : (entO f i == entO f i) = true := beq_self_eq_true _
    clear hn h
    go_wp2_with fail
    refine (wwalk_any (hT.kept (k1.then t2.k)) t2.m root a ha).mono ?_
    rintro e w3 ⟨rfl, k3⟩
    have t3 := t2.kept k3
    go_wp2_with fail
    refine (rwalk_any root a t3.r).mono ?_
    rintro e w4 ⟨tv, rfl, ot, k4⟩
    obtain ⟨tq, tn, tc, rfl⟩ := ot.form
    clear ot
    have t4 := t3.kept k4
    go_wp2_with fail
    refine (wentry_any (hT.kept (k1.then (t4.k.alloc _))) (t4.kept ((Only.refl _ w4).alloc _)).m f i).mono ?_
    rintro e w5 ⟨rfl, k5⟩
    have t5 := (t4.kept ((Only.refl _ w4).alloc (.cells #[.int .u64 (wkS B root a).e, .int .i64 (wkS B root a).f, .int .i64 (wkS B root a).c, .slice tq tn tc] 34))).kept k5
    have b5 := k5.block (alloc_last w4 _ _) id
    have d0 : w5.cell? ⟨w4.heap.size, 0, none⟩ = some (.int .u64 (wkS B root a).e) := by simp [World.cell?, b5]
    have d2 : w5.cell? ⟨w4.heap.size, 2, none⟩ = some (.int .i64 (wkS B root a).c) := by simp [World.cell?, b5]
    go_wp2_with fail
    refine (rentry_any f i t5.r).mono ?_
    rintro e w6 ⟨rfl, k6⟩
    have e0 := Kept.cell k6 d0
    have e2 := Kept.cell k6 d2
    have t6 := t5.kept k6
    go_wp2
    go_ret
    exact ⟨rfl, k1.then t6.k⟩
  · go_enter Try.func3, Try.ntmps3
    go_wp2_with fail
    refine (known11_any hT (Only.refl _ W)).mono ?_
    rintro e w1 ⟨rfl, k1⟩
    go_wp2_with fail
    refine (few_any _ _ _ _).mono ?_
    rintro e w' ⟨rfl, rfl⟩
    rw [decide_eq_false hn]
    go_wp2
    go_ret
    exact ⟨rfl, k1⟩
theorem list6w {α : Type} {l : List α} (h : l.length = 6) : ∃ a b c d e f, l = [a, b, c, d, e, f] := by
  match l, h with
  | [a, b, c, d, e, f], _ => exact ⟨a, b, c, d, e, f, rfl⟩
theorem cellsStw : Try.prog.cellsOf 53 = 6 := by kernel_rfl
theorem cellsWI : Try.prog.cellsOf 3 = 1 := by kernel_rfl
theorem cellsWU : Try.prog.cellsOf 23 = 1 := by kernel_rfl
theorem cellsWB : Try.prog.cellsOf 4 = 1 := by kernel_rfl
theorem plain_addW (b o n : Nat) : (⟨b, o, none⟩ : Addr).add n = ⟨b, o + n, none⟩ := by unfold Addr.add; split <;> simp_all
set_option maxRecDepth 100000 in
theorem open_steps {H : Type} {enc : TypeId × Value → H} {w : World} {r : Reach} {b0 base : Nat} {sp : Nat → Bool} {held : Bool} {v : Value} {d : DataW H} {p : List MemPlace}
    (hv : Value.okWide Try.prog w r b0 22 v) (h : DataW.Trod enc Try.prog w base sp held 22 v d p) : RowW w v := by
  obtain ⟨a, len, cap, rfl⟩ := okWide_slice Try.underlying22 hv
  obtain ⟨fuel, hf⟩ := h
  rcases Go.Deep.open_slice Try.underlying22 hf with ⟨h0, _⟩ | ⟨a', len', cap', m, n, D, Pl, h0, hb, hl, hm, hmm, hx, hel⟩
  · obtain ⟨rfl, rfl, rfl⟩ : a = none ∧ len = 0 ∧ cap = 0 := by simpa [Value.cells] using h0
    exact .inl ⟨none, 0, rfl⟩
  · obtain ⟨rfl, rfl, rfl⟩ : a = some a' ∧ len = len' ∧ cap = cap' := by simpa [Value.cells] using h0
    have hlm : len ≤ m := by rw [hmm]; split <;> omega
    by_cases hz : len = 0
    · subst hz
      exact .inl ⟨some a', cap, rfl⟩
    · have each : ∀ i, i < len → ∃ x : Stw, (w.cell? (a'.add (i * 6)) = some (.bool x.lay) ∧ w.cell? ((a'.add (i * 6)).add 1) = some (.int .i64 x.root) ∧ w.cell? ((a'.add (i * 6)).add 2) = some (.int .i64 x.low) ∧ w.cell? ((a'.add (i * 6)).add 3) = some (.int .i64 x.page) ∧ w.cell? ((a'.add (i * 6)).add 4) = some (.int .u64 x.e) ∧ w.cell? ((a'.add (i * 6)).add 5) = some (.int .u64 x.pl)) ∧ U x.pl ∧ U x.e := by
        intro i hi
        obtain ⟨cs', h1, h2⟩ := hel i (by omega)
        rw [cellsStw] at h1
        obtain ⟨_, hlen, hcell⟩ := World.cells?_some h1
        obtain ⟨c0, c1, c2, c3, c4, c5, rfl⟩ := list6w hlen
        obtain ⟨xs, n, _, hx, _, hlen, hel⟩ := DataW.trod_struct Try.underlying53 h2
        obtain ⟨y0, y1, y2, y3, y4, y5, rfl⟩ := list6w (show xs.length = 6 from hlen)
        obtain ⟨a0, e0, _⟩ := DataW.trod_bool Try.underlying4 (by simpa using hel 0 _ rfl)
        obtain ⟨a1, e1, _, w1⟩ := DataW.trod_int Try.underlying3 (by simpa using hel 1 _ rfl)
        obtain ⟨a2, e2, _, w2⟩ := DataW.trod_int Try.underlying3 (by simpa using hel 2 _ rfl)
        obtain ⟨a3, e3, _, w3⟩ := DataW.trod_int Try.underlying3 (by simpa using hel 3 _ rfl)
        obtain ⟨a4, e4, _, w4⟩ := DataW.trod_int Try.underlying23 (by simpa using hel 4 _ rfl)
        obtain ⟨a5, e5, _, w5⟩ := DataW.trod_int Try.underlying23 (by simpa using hel 5 _ rfl)
        simp [cellsWI, cellsWU, cellsWB] at e0 e1 e2 e3 e4 e5
        subst e0 e1 e2 e3 e4 e5
        exact ⟨⟨a0, a1, a2, a3, a4, a5⟩, ⟨hcell 0 (by decide), hcell 1 (by decide), hcell 2 (by decide), hcell 3 (by decide), hcell 4 (by decide), hcell 5 (by decide)⟩, U_of_wf w5, U_of_wf w4⟩
      have hsp : a'.spot = none := by
        obtain ⟨x, ⟨hx, _⟩, _⟩ := each 0 (by omega)
        simpa [Addr.add] using World.cell?_spot hx
      obtain ⟨b, o, s⟩ := a'
      simp only at hsp
      subst hsp
      obtain ⟨f, hf⟩ := Classical.axiomOfChoice (show ∀ i, ∃ x : Stw, i < len → SixW w b (o + i * 6) x ∧ U x.pl ∧ U x.e from fun i => by
        by_cases hi : i < len
        · obtain ⟨x, ⟨k0, k1, k2, k3, k4, k5⟩, hu⟩ := each i hi
          rw [plain_addW] at k0 k1 k2 k3 k4 k5
          rw [plain_addW] at k1 k2 k3 k4 k5
          exact ⟨x, fun _ => ⟨⟨k0, k1, k2, k3, k4, k5⟩, hu⟩⟩
        · exact ⟨⟨false, 0, 0, 0, 0, 0⟩, fun h => absurd h hi⟩)
      refine .inr ⟨b, o, cap, (List.range len).map f, by simp, fun j x hx => ?_, fun x hx => ?_⟩
      · rw [List.getElem?_map, Option.map_eq_some_iff] at hx
        obtain ⟨i, hi, rfl⟩ := hx
        obtain ⟨hlt, rfl⟩ : j < len ∧ j = i := by
          have := List.getElem?_eq_some_iff.1 hi
          obtain ⟨h1, h2⟩ := this
          simp at h1 h2
          exact ⟨h1, h2⟩
        exact (hf j hlt).1
      · obtain ⟨i, hi, rfl⟩ := List.mem_map.1 hx
        exact (hf i (List.mem_range.1 hi)).2
theorem carryS {H : Type} {enc : TypeId × Value → H} {W W' : World} {v : Value} {d : DataW H} {p : List MemPlace} {sp : Nat → Bool} (h : DataW.Trod enc Try.prog W 0 (fun _ => true) true 22 v d p) (hg : Kept W W') (hlt : ∀ x ∈ p, x.block < W.heap.size) (hsp : ∀ x ∈ p, sp x.block = true) :
    DataW.Trod enc Try.prog W' 0 sp true 22 v d p :=
  WideElems.Trod_stays (by kernel_rfl) (by kernel_rfl) (of_decide_eq_true (by kernel_rfl)) h (fun x hx => by
    cases x with
    | cell b o => exact World.cell?_of_block (w := W) (hg.same _ (hlt _ hx) id)
    | map b => exact hg.same _ (hlt _ hx) id) hsp
end Go.Proofs.Ytagfhfmaonoehaa
