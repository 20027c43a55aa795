/-
  Rows of entries that a call itself made: what is appended to them, what is read of them.
-/
import Derived.Test.YtpfblbleendpiaaDoorTlDoc
import Derived.Deep.AppendLies
import Derived.Great.BuildSlice
namespace Go.Proofs.YtpfblbleendpiaaDoor
open Go.RowKit
theorem info_ent : (Tryd.prog.info? 47).map (fun i => (i.zero, i.size, i.bytes)) = some (some (.agg (entA entNone).toArray), 9, 64) := by kernel_rfl
theorem info_parts9 {P : Program} {e : TypeId} {z : Value} {s b : Nat} (h : (P.info? e).map (fun i => (i.zero, i.size, i.bytes)) = some (some z, s, b)) : ∃ i, P.info? e = some i ∧ i.zero = some z ∧ i.size = s ∧ i.bytes = b := by
  cases hi : P.info? e with
  | none => rw [hi] at h; cases h
  | some i =>
    rw [hi] at h
    simp only [Option.map_some, Option.some.injEq, Prod.mk.injEq] at h
    exact ⟨i, rfl, h.1, h.2.1, h.2.2⟩
def flatE (L : List EntM) : List Value := L.flatMap entA
theorem flat_len : ∀ L : List EntM, (flatE L).length = L.length * 9
  | [] => rfl
  | e :: L => by
    have ih := flat_len L
    unfold flatE at *
    rw [List.flatMap_cons, List.length_append, ih, List.length_cons, ent9]
    omega
theorem flat_app (L : List EntM) (e : EntM) : flatE (L ++ [e]) = flatE L ++ entA e := by
  unfold flatE
  rw [List.flatMap_append, List.flatMap_cons, List.flatMap_nil, List.append_nil]
theorem flat_ones (L : List EntM) : ∀ u ∈ flatE L, u.oneCell' = true := by
  intro u hu
  unfold flatE at hu
  obtain ⟨e, _, he⟩ := List.mem_flatMap.1 hu
  simp only [entA, List.mem_cons, List.not_mem_nil, or_false] at he
  rcases he with rfl | rfl | rfl | rfl | rfl | rfl | rfl | rfl | rfl <;> rfl
theorem flat_at : ∀ (L : List EntM) (i : Nat) (h : i < L.length) (j : Nat), j < 9 → (flatE L)[i * 9 + j]? = (entA L[i])[j]?
  | e :: L, 0, _, j, hj => by
    unfold flatE
    rw [List.flatMap_cons, Nat.zero_mul, Nat.zero_add, List.getElem?_append_left (by rw [ent9]; exact hj)]
    rfl
  | e :: L, i + 1, h, j, hj => by
    have ih := flat_at L i (by simpa using h) j hj
    unfold flatE at *
    rw [List.flatMap_cons, List.getElem?_append_right (by rw [ent9]; omega), ent9, show (i + 1) * 9 + j - 9 = i * 9 + j by omega, ih]
    rfl
/-- A row of entries that the call itself made. -/
def OwnE (base : Nat) (w : World) (v : Value) (L : List EntM) : Prop := w.ownsRow base 47 9 v L.length (flatE L)
theorem ownE_nil (base : Nat) (w : World) : OwnE base w (.slice none 0 0) [] := World.ownsRow_nil w base _ _
theorem OwnE.form {base : Nat} {w : World} {v : Value} {L : List EntM} (h : OwnE base w v L) : ∃ q cap, v = .slice q L.length cap := by
  rcases h.2 with ⟨e, e2⟩ | ⟨g, cap, cur, e, _⟩
  · exact ⟨none, 0, by rw [e, e2]⟩
  · exact ⟨_, _, e⟩
theorem OwnE.same {base : Nat} {w w' : World} {v : Value} {L : List EntM} {S : Nat → Prop} (h : OwnE base w v L) (g : Only S w w') (hs : ∀ i, S i → v.ownBlock ≠ some i) : OwnE base w' v L := by
  refine ⟨h.1, ?_⟩
  rcases h.2 with h1 | ⟨b, cap, cur, e1, e2, e3, e4⟩
  · exact .inl h1
  · refine .inr ⟨b, cap, cur, e1, e2, g.block e3 fun x => hs b x ?_, e4⟩
    rw [e1]; rfl
theorem OwnE.kept {base : Nat} {w w' : World} {v : Value} {L : List EntM} (h : OwnE base w v L) (g : Kept w w') : OwnE base w' v L := h.same g fun _ x => x.elim
theorem OwnE.past {base : Nat} {w w' : World} {v : Value} {L : List EntM} {S : Nat → Prop} (h : OwnE base w v L) (g : Only S w w') (hs : ∀ i, S i → i < base) : OwnE base w' v L := by
  refine ⟨h.1, ?_⟩
  rcases h.2 with h1 | ⟨b, cap, cur, e1, e2, e3, e4⟩
  · exact .inl h1
  · exact .inr ⟨b, cap, cur, e1, e2, g.block e3 fun x => by have := hs b x; omega, e4⟩
theorem OwnE.lower {base c : Nat} {w : World} {v : Value} {L : List EntM} (h : OwnE base w v L) (hc : c ≤ base) : OwnE c w v L := by
  refine ⟨h.1, ?_⟩
  rcases h.2 with h1 | ⟨b, cap, cur, e1, e2, e3⟩
  · exact .inl h1
  · exact .inr ⟨b, cap, cur, e1, by omega, e3⟩
/-- One of them, read whole. -/
theorem OwnE.range {base : Nat} {w : World} {v : Value} {L : List EntM} (h : OwnE base w v L) (i : Nat) (hi : i < L.length) : ∃ g cap, v = .slice (some ⟨g, 0, none⟩) L.length cap ∧ base ≤ g ∧ w.rangeAt g (i * 9) (entA L[i]) := by
  rcases h.2 with ⟨_, e⟩ | ⟨g, cap, cur, e1, e2, e3, e4, e5, e6, e7⟩
  · omega
  · refine ⟨g, cap, e1, e2, fun j u hu => ?_⟩
    have hj : j < 9 := by
      have := (List.getElem?_eq_some_iff.1 hu).1
      rwa [ent9] at this
    rw [← flat_at L i hi j hj, ← e7, List.getElem?_take] at hu
    split at hu
    · rw [cell_of_row w g (i * 9 + j) cur _ (0, 0) e3, ← Array.getElem?_toList]
      exact hu
    · cases hu
theorem only_grown9 {w w' : World} {row : Option Nat} (h : w.grownBy w' row) : Only (fun i => some i = row) w w' :=
  ⟨h.os, h.output, h.size, fun i hi hn => h.block i hi hn⟩
theorem app_bd9 : (1000 : Nat) ≤ maxLen := by unfold maxLen; omega
/-- One entry more, at the operation. -/
theorem wp_appE {w : World} {o : Oper} {a : Act} {K : Act → World → Prop} {Q : Exit → Act → World → Prop} (s x : Operand)
    (ho : o.op = .call { callee := .builtin .append, args := #[s, x], argTypes := #[22, 22] }) {base : Nat} {v : Value} {L : List EntM} (hs : a.eval s = v) (hown : OwnE base w v L) (b : Nat) (e : EntM)
    (hx : a.eval x = .slice (some ⟨b, 0, none⟩) 1 1) (hc : w.rangeAt b 0 (entA e)) (hn : L.length < 900) (hb : base ≤ w.heap.size)
    (h : ∀ g cap w', OwnE base w' (.slice (some ⟨g, 0, none⟩) (L.length + 1) cap) (L ++ [e]) → Only (fun i => base ≤ i ∧ v.ownBlock = some i) w w' → K (a.put o.dst (.slice (some ⟨g, 0, none⟩) (L.length + 1) cap)) w') : o.wp Tryd.prog a w K Q := by
  obtain ⟨i0, hi, hz0, hz1, hz2⟩ := info_parts9 info_ent
  have hbd := app_bd9
  refine wp_append_lies w s x 22 ho base 47 i0 (.agg (entA entNone).toArray) 9 64 Tryd.underlying22 hi hz0 hz1 hz2 rfl (by decide) v L.length (flatE L) hs hown ⟨b, 0, none⟩ 1 1 (entA e) hx rfl (fun j u hu => ?_) (fun u hu => ?_) (by decide) (by omega) (by omega) hb _ rfl ?_
  · rw [Addr.add_mid]; exact hc j u hu
  · refine flat_ones [e] u ?_
    unfold flatE
    rw [List.flatMap_cons, List.flatMap_nil, List.append_nil]; exact hu
  · intro g cap w' hown' hgrow hat hlt
    refine h g cap w' ?_ ((only_grown9 hgrow).mono fun i hi => ⟨(hown.lt i hi.symm).1, hi.symm⟩)
    unfold OwnE
    rw [List.length_append, flat_app]
    exact hown'
theorem wpList_appE {w : World} {ops : Array Oper} {rest : List Oper} {o : Oper} {a : Act} {Q : Exit → Act → World → Prop} (hgd : o.guard = none) (s x : Operand)
    (ho : o.op = .call { callee := .builtin .append, args := #[s, x], argTypes := #[22, 22] }) {base : Nat} {v : Value} {L : List EntM} (hs : a.eval s = v) (hown : OwnE base w v L) (b : Nat) (e : EntM)
    (hx : a.eval x = .slice (some ⟨b, 0, none⟩) 1 1) (hc : w.rangeAt b 0 (entA e)) (hn : L.length < 900) (hb : base ≤ w.heap.size)
    (h : ∀ g cap w', OwnE base w' (.slice (some ⟨g, 0, none⟩) (L.length + 1) cap) (L ++ [e]) → Only (fun i => base ≤ i ∧ v.ownBlock = some i) w w' → wpList Tryd.prog ops Q rest (a.put o.dst (.slice (some ⟨g, 0, none⟩) (L.length + 1) cap)) w') : wpList Tryd.prog ops Q (o :: rest) a w :=
  wpList_plain hgd fun _ hK => wp_appE s x ho hs hown b e hx hc hn hb fun g cap w' h1 h2 => hK _ _ (h g cap w' h1 h2)
theorem fill1 (e : EntM) : Instr.fill (fun i => some (i * 9, 9)) ((Array.range (1 * 9)).map (((Value.agg (entA entNone).toArray).cells)[· % ((Value.agg (entA entNone).toArray).cells).size]!)) [(0, Value.agg (entA e).toArray)] = some (entA e).toArray := by
  kernel_rfl
/-- A slice of one entry. -/
theorem wpList_slice1 {ops : Array Oper} {rest : List Oper} {o : Oper} {a : Act} {w : World} {Q : Exit → Act → World → Prop} (hg : o.guard = none) (x : Operand) (ho : o.op = .buildSlice 22 1 #[(0, x)]) (e : EntM) (hx : a.eval x = .agg (entA e).toArray)
    (h : ∀ b w', w.heap.size = b → Kept w w' → w'.heap.size = b + 1 → Blk w' b 47 (entA e).toArray → wpList Tryd.prog ops Q rest (a.put o.dst (.slice (some ⟨b, 0, none⟩) 1 1)) w') : wpList Tryd.prog ops Q (o :: rest) a w := by
  obtain ⟨i0, hi, hz0, hz1, hz2⟩ := info_parts9 info_ent
  refine wpList_buildSlice hg 22 47 1 _ ho (entA e).toArray i0 _ Tryd.underlying22 hi hz0 (by rw [hz1]; decide) (by rw [hz1]; decide) ?_ (h _ _ rfl ((Only.refl _ w).alloc _) (Go.Deep.nblk_alloc _ _) (alloc_last w _ _))
  have hp : (#[((0 : Nat), x)].map fun (p : Nat × Operand) => (p.1, a.eval p.2)).toList = [(0, Value.agg (entA e).toArray)] := by
    rw [List.map_toArray, List.map_cons, List.map_nil, hx]
  rw [hz1]
  exact (congrArg _ hp).trans (fill1 e)
end Go.Proofs.YtpfblbleendpiaaDoor
