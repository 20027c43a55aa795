/-
  Slices of numbers that a call itself made: what is appended to them. Nothing of the program is walked here.
-/
import Derived.Test.YtpplclenokfpeaaDoorMemBase
import Derived.Deep.AppendLies
import Derived.Laws.AppendOwnNone
namespace Go.Proofs.YtpplclenokfpeaaDoor
open Go.RowKit
theorem info_parts64 {P : Program} {e : TypeId} {z : Value} {s b : Nat} (h : (P.info? e).map (fun i => (i.zero, i.size, i.bytes)) = some (some z, s, b)) : ∃ i, P.info? e = some i ∧ i.zero = some z ∧ i.size = s ∧ i.bytes = b := by
  cases hi : P.info? e with
  | none => rw [hi] at h; cases h
  | some i =>
    rw [hi] at h
    simp only [Option.map_some, Option.some.injEq, Prod.mk.injEq] at h
    exact ⟨i, rfl, h.1, h.2.1, h.2.2⟩
theorem info_i64 : (Tryd.prog.info? 3).map (fun i => (i.zero, i.size, i.bytes)) = some (some (.int .i64 0), 1, 8) := by kernel_rfl
/-- A slice of numbers that the call itself made, of n at most. -/
def OwnT (base n : Nat) (w : World) (v : Value) : Prop := ∃ k xs, w.ownsRow base 3 1 v k xs ∧ k ≤ n ∧ (∀ u ∈ xs, u.oneCell' = true) ∧ (k = 0 → v = .slice none 0 0)
theorem ownT_nil (base n : Nat) (w : World) : OwnT base n w (.slice none 0 0) := ⟨0, [], World.ownsRow_nil w base _ _, by omega, by simp, fun _ => rfl⟩
theorem OwnT.form {base n : Nat} {w : World} {v : Value} (h : OwnT base n w v) : ∃ q k cap, v = .slice q k cap := by
  obtain ⟨k, xs, ⟨_, h1⟩, _⟩ := h
  rcases h1 with ⟨e, _⟩ | ⟨g, cap, cur, e, _⟩
  · exact ⟨_, _, _, e⟩
  · exact ⟨_, _, _, e⟩
theorem OwnT.more {base n m : Nat} {w : World} {v : Value} (h : OwnT base n w v) (hm : n ≤ m) : OwnT base m w v := by
  obtain ⟨k, xs, h1, h2, h3⟩ := h
  exact ⟨k, xs, h1, Nat.le_trans h2 hm, h3⟩
theorem OwnT.lower {base c n : Nat} {w : World} {v : Value} (h : OwnT base n w v) (hc : c ≤ base) : OwnT c n w v := by
  obtain ⟨k, xs, ⟨h0, h1⟩, h2, h3⟩ := h
  refine ⟨k, xs, ⟨h0, ?_⟩, h2, h3⟩
  rcases h1 with h1 | ⟨g, cap, cur, e1, e2, e3⟩
  · exact .inl h1
  · exact .inr ⟨g, cap, cur, e1, Nat.le_trans hc e2, e3⟩
theorem OwnT.kept {base n : Nat} {w w' : World} {v : Value} (h : OwnT base n w v) (g : Kept w w') : OwnT base n w' v := by
  obtain ⟨k, xs, ⟨h0, h1⟩, h2, h3⟩ := h
  refine ⟨k, xs, ⟨h0, ?_⟩, h2, h3⟩
  rcases h1 with h1 | ⟨b, cap, cur, e1, e2, e3, e4⟩
  · exact .inl h1
  · exact .inr ⟨b, cap, cur, e1, e2, g.block e3 id, e4⟩
theorem OwnT.past {base n : Nat} {w w' : World} {v : Value} {S : Nat → Prop} (h : OwnT base n w v) (g : Only S w w') (hs : ∀ i, S i → i < base) : OwnT base n w' v := by
  obtain ⟨k, xs, ⟨h0, h1⟩, h2, h3⟩ := h
  refine ⟨k, xs, ⟨h0, ?_⟩, h2, h3⟩
  rcases h1 with h1 | ⟨b, cap, cur, e1, e2, e3, e4⟩
  · exact .inl h1
  · exact .inr ⟨b, cap, cur, e1, e2, g.block e3 fun x => by have := hs b x; omega, e4⟩
theorem only_grown {w w' : World} {row : Option Nat} (h : w.grownBy w' row) : Only (fun i => some i = row) w w' :=
  ⟨h.os, h.output, h.size, fun i hi hn => h.block i hi hn⟩
theorem app_bd : (100 : Nat) ≤ maxLen := by unfold maxLen; omega
/-- One number more, at the operation. -/
theorem wp_app1 {w : World} {o : Oper} {a : Act} {K : Act → World → Prop} {Q : Exit → Act → World → Prop} (s x : Operand)
    (ho : o.op = .call { callee := .builtin .append, args := #[s, x], argTypes := #[41, 41] }) {base n : Nat} {v : Value} (hs : a.eval s = v) (hown : OwnT base n w v) (b : Nat) (r : Int)
    (hx : a.eval x = .slice (some ⟨b, 0, none⟩) 1 1) (hc : w.cell? ⟨b, 0, none⟩ = some (.int .i64 r)) (hn : n < 100) (hb : base ≤ w.heap.size)
    (h : ∀ g k cap w', OwnT base (n + 1) w' (.slice (some ⟨g, 0, none⟩) k cap) → Only (fun i => base ≤ i ∧ v.ownBlock = some i) w w' → K (a.put o.dst (.slice (some ⟨g, 0, none⟩) k cap)) w') : o.wp Tryd.prog a w K Q := by
  obtain ⟨k, xs, h1, h2, h3, h4⟩ := hown
  obtain ⟨i0, hi, hz0, hz1, hz2⟩ := info_parts64 info_i64
  have hbd := app_bd
  refine wp_append_lies w s x 41 ho base 3 i0 (.int .i64 0) 1 8 Tryd.underlying41 hi hz0 hz1 hz2 rfl (by decide) v k xs hs h1 ⟨b, 0, none⟩ 1 1 [.int .i64 r] hx rfl (fun j u hu => ?_) (fun u hu => ?_) (by decide) (by omega) (by omega) hb _ rfl ?_
  · cases j with
    | zero =>
      have : Value.int .i64 r = u := by simpa using hu
      rw [← this]
      have hadd : (⟨b, 0, none⟩ : Addr).add 0 = ⟨b, 0, none⟩ := by unfold Addr.add; split <;> simp_all
      rw [hadd]; exact hc
    | succ j => simp at hu
  · have : u = .int .i64 r := by simpa using hu
    rw [this]; rfl
  · intro g cap w' hown' hgrow hat hlt
    refine h _ _ _ w' ⟨k + 1, xs ++ [.int .i64 r], hown', by omega, fun u hu => ?_, fun h0 => by omega⟩ ((only_grown hgrow).mono fun i hi => ⟨?_, hi.symm⟩)
    · rcases List.mem_append.1 hu with hu | hu
      · exact h3 u hu
      · have : u = .int .i64 r := by simpa using hu
        rw [this]; rfl
    · exact (h1.lt i hi.symm).1
/-- One number more, at the list of a region's operations. -/
theorem wpList_app1 {w : World} {ops : Array Oper} {rest : List Oper} {o : Oper} {a : Act} {Q : Exit → Act → World → Prop} (hgd : o.guard = none) (s x : Operand)
    (ho : o.op = .call { callee := .builtin .append, args := #[s, x], argTypes := #[41, 41] }) {base n : Nat} {v : Value} (hs : a.eval s = v) (hown : OwnT base n w v) (b : Nat) (r : Int)
    (hx : a.eval x = .slice (some ⟨b, 0, none⟩) 1 1) (hc : w.cell? ⟨b, 0, none⟩ = some (.int .i64 r)) (hn : n < 100) (hb : base ≤ w.heap.size)
    (h : ∀ g k cap w', OwnT base (n + 1) w' (.slice (some ⟨g, 0, none⟩) k cap) → Only (fun i => base ≤ i ∧ v.ownBlock = some i) w w' → wpList Tryd.prog ops Q rest (a.put o.dst (.slice (some ⟨g, 0, none⟩) k cap)) w') : wpList Tryd.prog ops Q (o :: rest) a w :=
  wpList_plain hgd fun _ hK => wp_app1 s x ho hs hown b r hx hc hn hb fun g k cap w' h1 h2 => hK _ _ (h g k cap w' h1 h2)
/-- One number more, at a step of a region that draws its order. -/
theorem step_app1 {w : World} {ops : Array Oper} {o : Oper} {a : Act} {K : Act → World → Prop} {Q : Exit → Act → World → Prop} {E : Prop} (hgd : o.guard = none) (s x : Operand)
    (ho : o.op = .call { callee := .builtin .append, args := #[s, x], argTypes := #[41, 41] }) {base n : Nat} {v : Value} (hs : a.eval s = v) (hown : OwnT base n w v) (b : Nat) (r : Int)
    (hx : a.eval x = .slice (some ⟨b, 0, none⟩) 1 1) (hc : w.cell? ⟨b, 0, none⟩ = some (.int .i64 r)) (hn : n < 100) (hb : base ≤ w.heap.size)
    (h : ∀ g k cap w', OwnT base (n + 1) w' (.slice (some ⟨g, 0, none⟩) k cap) → Only (fun i => base ≤ i ∧ v.ownBlock = some i) w w' → K (a.put o.dst (.slice (some ⟨g, 0, none⟩) k cap)) w') :
    if Region.wanted o (yielded ops a.tmps) = true then Oper.wp Tryd.prog o a w K Q else E := by
  have hw : Region.wanted o (yielded ops a.tmps) = true := by simp [Region.wanted, hgd]
  rw [if_pos hw]
  exact wp_app1 s x ho hs hown b r hx hc hn hb h
/-- What another slice of the call's own holds, appended. -/
theorem wpList_appT {w : World} {ops : Array Oper} {rest : List Oper} {o : Oper} {a : Act} {Q : Exit → Act → World → Prop} (hgd : o.guard = none) (s x : Operand)
    (ho : o.op = .call { callee := .builtin .append, args := #[s, x], argTypes := #[41, 41] }) {base n : Nat} {v : Value} (hs : a.eval s = v) (hown : OwnT base n w v) {base2 m : Nat} {t : Value}
    (hx : a.eval x = t) (ht : OwnT base2 m w t) (hnm : n + m < 100) (hb : base ≤ w.heap.size)
    (h : ∀ q k cap w', OwnT base (n + m) w' (.slice q k cap) → Only (fun i => base ≤ i ∧ v.ownBlock = some i) w w' → wpList Tryd.prog ops Q rest (a.put o.dst (.slice q k cap)) w') : wpList Tryd.prog ops Q (o :: rest) a w := by
  obtain ⟨i0, hi, hz0, hz1, hz2⟩ := info_parts64 info_i64
  have hbd := app_bd
  obtain ⟨vq, vk, vc, hv⟩ := hown.form
  obtain ⟨k2, ys, ⟨e0, e1⟩, e2, e3, e4⟩ := ht
  rcases e1 with ⟨et, _⟩ | ⟨g, cap, cur, et, hg, hh, hc1, hc2, hc3, hc4⟩
  · obtain ⟨k, xs, h1, h2, h3, h4⟩ := hown
    refine wpList_append_own_none hgd s x 41 ho base 3 i0 1 Tryd.underlying41 hi v k xs hs h1 (by rw [hx, et]) ?_
    subst hv
    exact h _ _ _ w ⟨k, xs, h1, by omega, h3, h4⟩ (Only.refl _ w)
  · have hk2 : 0 < k2 := by
      rcases Nat.eq_zero_or_pos k2 with z | z
      · have := e4 z
        rw [et] at this
        simp at this
      · exact z
    obtain ⟨k, xs, h1, h2, h3, h4⟩ := hown
    refine wpList_append_lies w hgd s x 41 ho base 3 i0 (.int .i64 0) 1 8 Tryd.underlying41 hi hz0 hz1 hz2 rfl (by decide) v k xs hs h1 ⟨g, 0, none⟩ k2 cap ys (by rw [hx, et]) e0 (fun j u hu => ?_) e3 hk2 (by omega) (by omega) hb _ rfl ?_
    · have hadd : (⟨g, 0, none⟩ : Addr).add j = ⟨g, j, none⟩ := by unfold Addr.add; split <;> simp_all
      rw [hadd, cell_of_row w g j cur _ (0, 0) hh]
      rw [← hc4, List.getElem?_take] at hu
      split at hu
      · rw [Array.getElem?_toList] at hu; exact hu
      · cases hu
    · intro g' cap' w' hown' hgrow hat hlt
      refine h _ _ _ w' ⟨k + k2, xs ++ ys, hown', by omega, fun u hu => ?_, fun h0 => by omega⟩ ((only_grown hgrow).mono fun i hi => ⟨(h1.lt i hi.symm).1, hi.symm⟩)
      rcases List.mem_append.1 hu with hu | hu
      · exact h3 u hu
      · exact e3 u hu
end Go.Proofs.YtpplclenokfpeaaDoor
