/-
  A variable of plain data (numbers, bools, texts, structs and arrays of these) that reads as a datum holds that datum's cells, one behind the other.
-/
import Derived.Test.YtkijdogckfpdpaaDoorRows
import Derived.LaidLaws
import Derived.ChangeArms
import Derived.LaidMore
namespace Go.Proofs.YtkijdogckfpdpaaDoor
def flatD {H : Type} : Nat → DataW H → List Value
  | 0, _ => []
  | _ + 1, .lit (.int k z) => [.int k z]
  | _ + 1, .lit (.bool b) => [.bool b]
  | _ + 1, .lit (.string s) => [.string ⟨s.toArray⟩]
  | n + 1, .agg ds => ds.flatMap (flatD n)
  | _ + 1, _ => []
def tiles (P : Program) (ok : TypeId → Bool) (total : Nat) : Nat → List Field → Bool
  | at0, [] => at0 == total
  | at0, f :: fs => f.offset == at0 && ok f.type && tiles P ok total (at0 + P.cellsOf f.type) fs
def plainT (P : Program) : Nat → TypeId → Bool
  | 0, _ => false
  | n + 1, t => match P.underlying t with
    | some .bool => true
    | some (.int _) => true
    | some .string => true
    | some (.struct fs) => tiles P (plainT P n) (P.cellsOf t) 0 fs.toList
    | some (.array m e) => plainT P n e && (P.cellsOf t == m * P.cellsOf e)
    | _ => false
theorem flat_fields {H : Type} {P : Program} {n : Nat} {total : Nat} {cs : List Value} (hl : cs.length = total) (rd : TypeId → List Value → Option (DataW H × List MemPlace))
    (ih : ∀ t cs x, plainT P n t = true → rd t cs = some x → cs = flatD n x.1) :
    ∀ (fs : List Field) (at0 : Nat) (xs : List (DataW H × List MemPlace)), tiles P (plainT P n) total at0 fs = true →
      (fs.mapM fun f => rd f.type ((cs.drop f.offset).take (P.cellsOf f.type))) = some xs → cs.drop at0 = (xs.map (·.1)).flatMap (flatD n)
  | [], at0, xs, ht, hm => by
    simp only [tiles, beq_iff_eq] at ht
    simp at hm
    subst hm
    simp
    omega
  | f :: fs, at0, xs, ht, hm => by
    simp only [tiles, Bool.and_eq_true, beq_iff_eq] at ht
    simp only [List.mapM_cons, Option.bind_eq_bind, Option.bind_eq_some_iff, Option.pure_def, Option.some.injEq] at hm
    obtain ⟨x, hx, r, hr, rfl⟩ := hm
    have h1 := ih _ _ _ ht.1.2 hx
    have h2 := flat_fields hl rd ih fs _ r ht.2 hr
    simp only [List.map_cons, List.flatMap_cons]
    rw [← h1, ← h2, ht.1.1, ← List.drop_drop, List.take_append_drop]
theorem flat_elems {H : Type} {n : Nat} {c : Nat} {cs : List Value} (rd : List Value → Option (DataW H × List MemPlace))
    (ih : ∀ cs x, rd cs = some x → cs = flatD n x.1) :
    ∀ (j s : Nat) (xs : List (DataW H × List MemPlace)), cs.length = (s + j) * c →
      ((List.range' s j).mapM fun i => rd ((cs.drop (i * c)).take c)) = some xs → cs.drop (s * c) = (xs.map (·.1)).flatMap (flatD n)
  | 0, s, xs, hl, hm => by
    simp at hm
    subst hm
    simp at hl ⊢
    omega
  | j + 1, s, xs, hl, hm => by
    simp only [List.range'_succ, List.mapM_cons, Option.bind_eq_bind, Option.bind_eq_some_iff, Option.pure_def, Option.some.injEq] at hm
    obtain ⟨x, hx, r, hr, rfl⟩ := hm
    have h1 := ih _ _ hx
    have h2 := flat_elems rd ih j (s + 1) r (by rw [hl]; congr 1; omega) hr
    simp only [List.map_cons, List.flatMap_cons]
    rw [← h1, ← h2, Nat.succ_mul, ← List.drop_drop, List.take_append_drop]
theorem flat_of_trod {H : Type} {enc : TypeId × Value → H} {P : Program} {w : World} {base : Nat} {sp : Nat → Bool} {held : Bool} :
    ∀ (n fuel : Nat) (t : TypeId) (cs : List Value) (x : DataW H × List MemPlace), plainT P n t = true → DataW.trod enc P w base sp held fuel t cs = some x → cs = flatD n x.1
  | 0, _, _, _, _, hp, _ => by simp [plainT] at hp
  | n + 1, 0, _, _, _, _, h => by simp [DataW.trod] at h
  | n + 1, fuel + 1, t, cs, x, hp, h => by
    cases hu : P.underlying t with
    | none => simp [plainT, hu] at hp
    | some d =>
      cases d <;> simp only [plainT, hu] at hp <;> try (exact absurd hp Bool.false_ne_true)
      case bool =>
        obtain ⟨b, rfl, rfl⟩ := DataW.trod_bool hu h
        rfl
      case int k =>
        obtain ⟨z, rfl, rfl, _⟩ := DataW.trod_int hu h
        rfl
      case string =>
        obtain ⟨s, rfl, rfl, _⟩ := DataW.trod_string hu h
        simp [flatD]
      case struct fs =>
        simp only [DataW.trod, hu] at h
        split at h
        · rename_i hl
          obtain ⟨xs, hm, rfl⟩ := Option.map_eq_some_iff.1 h
          exact flat_fields hl (fun t cs => DataW.trod enc P w base sp held fuel t cs) (fun t cs x => flat_of_trod n fuel t cs x) fs.toList 0 xs hp hm
        · simp at h
      case array m e =>
        simp only [DataW.trod, hu] at h
        split at h
        · rename_i hl
          obtain ⟨xs, hm, rfl⟩ := Option.map_eq_some_iff.1 h
          simp only [Bool.and_eq_true, beq_iff_eq] at hp
          rw [List.range_eq_range'] at hm
          have := flat_elems (c := P.cellsOf e) (cs := cs) (fun cs => DataW.trod enc P w base sp held fuel e cs) (fun cs x => flat_of_trod n fuel e cs x hp.1) m 0 xs (by rw [hl, hp.2]; simp) hm
          simpa [flatD] using this
        · simp at h
theorem mapM_same_on {α β : Type} {f g : α → Option β} : ∀ (l : List α) (r : List β), (∀ a ∈ l, ∀ b, f a = some b → g a = some b) → l.mapM f = some r → l.mapM g = some r
  | [], r, _, e => by simpa using e
  | a :: l, r, h, e => by
    simp only [List.mapM_cons, Option.bind_eq_bind, Option.bind_eq_some_iff, Option.pure_def, Option.some.injEq] at e ⊢
    obtain ⟨b, hb, r', hr, rfl⟩ := e
    exact ⟨b, h a (by simp) b hb, r', mapM_same_on l r' (fun x hx => h x (by simp [hx])) hr, rfl⟩
theorem tiles_ok {P : Program} {ok : TypeId → Bool} {total : Nat} : ∀ (fs : List Field) (at0 : Nat), tiles P ok total at0 fs = true → ∀ f ∈ fs, ok f.type = true
  | [], _, _, f, hf => by simp at hf
  | g :: fs, at0, h, f, hf => by
    simp only [tiles, Bool.and_eq_true, beq_iff_eq] at h
    rcases List.mem_cons.1 hf with rfl | hf
    · exact h.1.2
    · exact tiles_ok fs _ h.2 f hf
theorem mapM_from {α β : Type} {f : α → Option β} : ∀ {l : List α} {r : List β}, l.mapM f = some r → ∀ b ∈ r, ∃ a ∈ l, f a = some b
  | [], r, e, b, hb => by
    simp at e
    subst e
    simp at hb
  | a :: l, r, e, b, hb => by
    simp only [List.mapM_cons, Option.bind_eq_bind, Option.bind_eq_some_iff, Option.pure_def, Option.some.injEq] at e
    obtain ⟨c, hc, r', hr, rfl⟩ := e
    rcases List.mem_cons.1 hb with rfl | hb
    · exact ⟨a, by simp, hc⟩
    · obtain ⟨a', ha', h'⟩ := mapM_from hr b hb
      exact ⟨a', by simp [ha'], h'⟩
/-- Plain data read the same in every world. -/
theorem plain_again {H : Type} {enc : TypeId × Value → H} {P : Program} {w w' : World} {base : Nat} {sp sp' : Nat → Bool} {held : Bool} :
    ∀ (n fuel : Nat) (t : TypeId) (cs : List Value) (x : DataW H × List MemPlace), plainT P n t = true → DataW.trod enc P w base sp held fuel t cs = some x → DataW.trod enc P w' base sp' held fuel t cs = some x
  | 0, _, _, _, _, hp, _ => by simp [plainT] at hp
  | n + 1, 0, _, _, _, _, h => by simp [DataW.trod] at h
  | n + 1, fuel + 1, t, cs, x, hp, h => by
    cases hu : P.underlying t with
    | none => simp [plainT, hu] at hp
    | some d =>
      cases d <;> simp only [plainT, hu] at hp <;> try (exact absurd hp Bool.false_ne_true)
      case bool =>
        obtain ⟨b, rfl, rfl⟩ := DataW.trod_bool hu h
        simp [DataW.trod, hu]
      case int k =>
        obtain ⟨z, rfl, rfl, hz⟩ := DataW.trod_int hu h
        simp [DataW.trod, hu, hz]
      case string =>
        obtain ⟨s, rfl, rfl, hs⟩ := DataW.trod_string hu h
        simp [DataW.trod, hu, hs]
      case struct fs =>
        simp only [DataW.trod, hu] at h ⊢
        split at h
        · rename_i hl
          rw [if_pos hl]
          obtain ⟨xs, hm, rfl⟩ := Option.map_eq_some_iff.1 h
          rw [mapM_same_on fs.toList xs (fun f hf b hb => plain_again n fuel _ _ b (tiles_ok _ _ hp f hf) hb) hm]
          rfl
        · simp at h
      case array m e =>
        simp only [Bool.and_eq_true, beq_iff_eq] at hp
        simp only [DataW.trod, hu] at h ⊢
        split at h
        · rename_i hl
          rw [if_pos hl]
          obtain ⟨xs, hm, rfl⟩ := Option.map_eq_some_iff.1 h
          rw [mapM_same_on _ xs (fun i _ b hb => plain_again n fuel _ _ b hp.1 hb) hm]
          rfl
        · simp at h
/-- Plain data lie in no memory of their own. -/
theorem plain_places {H : Type} {enc : TypeId × Value → H} {P : Program} {w : World} {base : Nat} {sp : Nat → Bool} {held : Bool} :
    ∀ (n fuel : Nat) (t : TypeId) (cs : List Value) (x : DataW H × List MemPlace), plainT P n t = true → DataW.trod enc P w base sp held fuel t cs = some x → x.2 = []
  | 0, _, _, _, _, hp, _ => by simp [plainT] at hp
  | n + 1, 0, _, _, _, _, h => by simp [DataW.trod] at h
  | n + 1, fuel + 1, t, cs, x, hp, h => by
    cases hu : P.underlying t with
    | none => simp [plainT, hu] at hp
    | some d =>
      cases d <;> simp only [plainT, hu] at hp <;> try (exact absurd hp Bool.false_ne_true)
      case bool =>
        obtain ⟨b, rfl, rfl⟩ := DataW.trod_bool hu h
        rfl
      case int k =>
        obtain ⟨z, rfl, rfl, hz⟩ := DataW.trod_int hu h
        rfl
      case string =>
        obtain ⟨s, rfl, rfl, hs⟩ := DataW.trod_string hu h
        rfl
      case struct fs =>
        obtain ⟨xs, k, _, rfl, _, hlen, hel⟩ := DataW.trod_struct hu h
        apply List.flatMap_eq_nil_iff.2
        intro y hy
        obtain ⟨i, hi⟩ := List.getElem?_of_mem hy
        have hi' : i < fs.size := by rw [← hlen]; exact (List.getElem?_eq_some_iff.1 hi).1
        have e := hel i fs[i] (by simp [hi'])
        rw [hi] at e
        exact plain_places n k _ _ y (tiles_ok _ _ hp _ (by simp)) e
      case array m e =>
        simp only [Bool.and_eq_true, beq_iff_eq] at hp
        simp only [DataW.trod, hu] at h
        split at h
        · obtain ⟨xs, hm, rfl⟩ := Option.map_eq_some_iff.1 h
          apply List.flatMap_eq_nil_iff.2
          intro y hy
          obtain ⟨a, _, ha⟩ := mapM_from hm y hy
          exact plain_places n fuel _ _ y hp.1 ha
        · simp at h
end Go.Proofs.YtkijdogckfpdpaaDoor
