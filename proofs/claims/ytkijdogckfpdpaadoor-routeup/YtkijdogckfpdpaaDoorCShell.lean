/-
  A state that comes in: its registers; what it reads as behind the call.
-/
import Derived.Test.YtkijdogckfpdpaaDoorStBase
import Derived.Test.YtkijdogckfpdpaaDoorShell
namespace Go.Proofs.YtkijdogckfpdpaaDoor
open Go.ChangeShapes Go.WideShapes Go.ChangeAt Go.RowKit Go.ChangeMaps
theorem mapM_each {α β : Type} {f : α → Option β} : ∀ {l : List α} {r : List β}, l.mapM f = some r → ∀ a ∈ l, ∃ b, f a = some b
  | [], _, _, a, ha => by simp at ha
  | x :: l, r, e, a, ha => by
    simp only [List.mapM_cons, Option.bind_eq_bind, Option.bind_eq_some_iff, Option.pure_def, Option.some.injEq] at e
    obtain ⟨c, hc, r', hr, rfl⟩ := e
    rcases List.mem_cons.1 ha with rfl | ha
    · exact ⟨c, hc⟩
    · exact mapM_each hr a ha
theorem plain65 : plainT Tryd.prog 3 26 = true := by kernel_rfl
theorem one_cell {cs : List Value} {i : Nat} {v : Value} (h : (cs.drop i).take 1 = [v]) : cs[i]? = some v := by
  have e : ((cs.drop i).take 1)[0]? = some v := by rw [h]; rfl
  rw [List.getElem?_take, if_pos (by omega), List.getElem?_drop] at e
  simpa using e
theorem arr_cells {H : Type} {enc : TypeId × Value → H} {w : World} {base : Nat} {sp : Nat → Bool} {held : Bool} {T : TypeId} {m fuel : Nat} {cs : List Value} {x : DataW H × List MemPlace} (hu : Tryd.prog.underlying T = some (.array m 22))
    (h : DataW.trod enc Tryd.prog w base sp held fuel T cs = some x) : ∀ i, i < m → ∃ a : Int, cs[i]? = some (.int .u64 a) ∧ U a := by
  intro i hi
  cases fuel with
  | zero => simp [DataW.trod] at h
  | succ fuel =>
    simp only [DataW.trod, hu] at h
    split at h
    · obtain ⟨xs, hm, _⟩ := Option.map_eq_some_iff.1 h
      obtain ⟨y, hy⟩ := mapM_each hm i (List.mem_range.2 hi)
      rw [cells_u, Nat.mul_one] at hy
      obtain ⟨a, ha, _, hw⟩ := DataW.trod_int Tryd.underlying22 hy
      exact ⟨a, one_cell ha, U_of_wf hw⟩
    · simp at h
set_option maxRecDepth 100000 in
theorem open_state {H : Type} {enc : TypeId × Value → H} {w : World} {r : Reach} {b0 base : Nat} {sp : Nat → Bool} {held : Bool} {v : Value} {d : DataW H} {p : List MemPlace}
    (hv : Value.okWide Tryd.prog w r b0 26 v) (h : DataW.Trod enc Tryd.prog w base sp held 26 v d p) :
    ∃ S : StM, v = .agg (rowOf 65 (stF S)) ∧ p = [] ∧ S.Ok := by
  obtain ⟨⟨l⟩, rfl, hsz⟩ := okWide_struct Tryd.underlying26 hv
  rw [cells_S] at hsz
  have hl : l.length = 65 := hsz
  obtain ⟨fuel, hf⟩ := h
  have hp := plain_places 3 fuel 26 _ _ plain65 hf
  obtain ⟨xs, n, _, hx, _, hlen, hel⟩ := DataW.trod_struct Tryd.underlying26 hf
  obtain ⟨y0, y1, y2, y3, y4, y5, rfl⟩ := list6 (show xs.length = 6 from hlen)
  have f0 : DataW.trod enc Tryd.prog w base sp held n 23 ((l.drop 0).take 32) = some y0 := by rw [← cells_X]; exact hel 0 _ rfl
  have f1 : DataW.trod enc Tryd.prog w base sp held n 22 ((l.drop 32).take 1) = some y1 := by rw [← cells_u]; exact hel 1 _ rfl
  have f2 : DataW.trod enc Tryd.prog w base sp held n 3 ((l.drop 33).take 1) = some y2 := by rw [← cells_i]; exact hel 2 _ rfl
  have f3 : DataW.trod enc Tryd.prog w base sp held n 4 ((l.drop 34).take 1) = some y3 := by rw [← cells_b]; exact hel 3 _ rfl
  have f4 : DataW.trod enc Tryd.prog w base sp held n 24 ((l.drop 35).take 29) = some y4 := by rw [← cells_C]; exact hel 4 _ rfl
  have f5 : DataW.trod enc Tryd.prog w base sp held n 22 ((l.drop 64).take 1) = some y5 := by rw [← cells_u]; exact hel 5 _ rfl
  obtain ⟨X, hX⟩ := Classical.axiomOfChoice (show ∀ i : Nat, ∃ a : Int, i < 32 → l[i]? = some (.int .u64 a) ∧ U a from fun i => by
    by_cases hi : i < 32
    · obtain ⟨a, ha, hu⟩ := arr_cells Tryd.underlying23 f0 i hi
      rw [List.getElem?_take, if_pos hi, List.getElem?_drop, Nat.zero_add] at ha
      exact ⟨a, fun _ => ⟨ha, hu⟩⟩
    · exact ⟨0, fun h => absurd h hi⟩)
  obtain ⟨C, hC⟩ := Classical.axiomOfChoice (show ∀ i : Nat, ∃ a : Int, i < 29 → l[35 + i]? = some (.int .u64 a) ∧ U a from fun i => by
    by_cases hi : i < 29
    · obtain ⟨a, ha, hu⟩ := arr_cells Tryd.underlying24 f4 i hi
      rw [List.getElem?_take, if_pos hi, List.getElem?_drop] at ha
      exact ⟨a, fun _ => ⟨ha, hu⟩⟩
    · exact ⟨0, fun h => absurd h hi⟩)
  obtain ⟨pc, e1, _, w1⟩ := DataW.trod_int Tryd.underlying22 f1
  obtain ⟨lv, e2, _, w2⟩ := DataW.trod_int Tryd.underlying3 f2
  obtain ⟨vv, e3, _⟩ := DataW.trod_bool Tryd.underlying4 f3
  obtain ⟨dn, e5, _, w5⟩ := DataW.trod_int Tryd.underlying22 f5
  have c1 := one_cell e1
  have c2 := one_cell e2
  have c3 := one_cell e3
  have c5 := one_cell e5
  refine ⟨⟨X, pc, lv, vv, C, dn⟩, ?_, hp, ⟨fun i hi => (hX i hi).2, U_of_wf w1, i64_of_wf w2, fun i hi => (hC i hi).2, U_of_wf w5⟩⟩
  congr 1
  apply Array.ext_getElem?
  intro i
  by_cases hi : i < 65
  · rw [rowOf_at hi, ← Array.getElem?_toList]
    show l[i]? = _
    unfold stF
    by_cases h0 : i < 32
    · rw [if_pos h0]; exact (hX i h0).1
    · rw [if_neg h0]
      by_cases h1 : i = 32
      · rw [if_pos h1, h1]; exact c1
      · rw [if_neg h1]
        by_cases h2 : i = 33
        · rw [if_pos h2, h2]; exact c2
        · rw [if_neg h2]
          by_cases h3 : i = 34
          · rw [if_pos h3, h3]; exact c3
          · rw [if_neg h3]
            by_cases h4 : i < 64
            · rw [if_pos h4]
              have e := (hC (i - 35) (by omega)).1
              rwa [show 35 + (i - 35) = i by omega] at e
            · rw [if_neg h4, show i = 64 by omega]; exact c5
  · rw [Array.getElem?_eq_none (by show l.length ≤ i; omega), Array.getElem?_eq_none (by rw [rowOf_size]; omega)]
end Go.Proofs.YtkijdogckfpdpaaDoor
