/-
  There is never more than one for a page and mark. Plain facts: no call of the program is walked here.
-/
import Derived.Test.YtlfaklabghhdkaaFullMath
namespace Go.Proofs.Ytlfaklabghhdkaa
open Go.RowKit
/-- Of entries of the host's, without a guest's mark, no two are of one page and mark. -/
structure InvT (T : Nat → EntM) : Prop where
  own : ∀ i, i < 16 → (T i).valid = true → (T i).v = false ∧ (T i).vmid = 0
  two : ∀ i j, i < 16 → j < 16 → i ≠ j → (T i).valid = true → (T j).valid = true → ¬ ((T i).page = (T j).page ∧ (T i).asid = (T j).asid)
theorem inv_none : InvT noneT := ⟨fun _ _ h => Bool.noConfusion h, fun _ _ _ _ _ h => Bool.noConfusion h⟩
/-- An entry as the statement makes it. -/
def oneE (p a f : Int) : EntM := ⟨true, false, p, a, 0, f, 0, 0, 0⟩
theorem hit_one {T : Nat → EntM} {p a f : Int} {i : Nat} : hitE (oneE p a f).page (oneE p a f).v (oneE p a f).asid (oneE p a f).vmid (T i) = true ↔ (T i).valid = true ∧ (T i).page = p ∧ (T i).v = false ∧ (T i).asid = a ∧ (T i).vmid = 0 := by
  unfold hitE oneE
  simp only [Bool.and_eq_true, beq_iff_eq]
theorem spot_only {T : Nat → EntM} (hI : InvT T) (p a f pick : Int) (j : Nat) (hj : j < 16) (hn : (j : Int) ≠ spotT T (oneE p a f) pick) (hv : (T j).valid = true) : ¬ ((T j).page = p ∧ (T j).asid = a) := by
  rintro ⟨h1, h2⟩
  have ho := hI.own j hj hv
  have hh : hitP T (oneE p a f).page (oneE p a f).v (oneE p a f).asid (oneE p a f).vmid j = true := hit_one.2 ⟨hv, h1, ho.1, h2, ho.2⟩
  rcases find_cases (hitP T (oneE p a f).page (oneE p a f).v (oneE p a f).asid (oneE p a f).vmid) 16 0 with e | ⟨k, _, k1, k2, e⟩
  · have : ∀ n i : Nat, i ≤ j → j < i + n → findF (hitP T (oneE p a f).page (oneE p a f).v (oneE p a f).asid (oneE p a f).vmid) n i ≠ -1 := by
      intro n
      induction n with
      | zero => intro i h0 h1; omega
      | succ n ih =>
        intro i h0 h1
        unfold findF
        cases hi : hitP T (oneE p a f).page (oneE p a f).v (oneE p a f).asid (oneE p a f).vmid i
        · rw [cond_false]
          by_cases e : i = j
          · rw [e, hh] at hi
            cases hi
          · exact ih (i + 1) (by omega) (by omega)
        · rw [cond_true]; omega
    exact this 16 0 (by omega) (by omega) e
  · have hs : spotT T (oneE p a f) pick = (k : Int) := by
      unfold spotT atT
      rw [e, if_pos (by omega)]
    obtain ⟨g1, g2, g3, g4, g5⟩ := hit_one.1 k2
    have hkj : k ≠ j := fun x => hn (by rw [hs, x])
    exact hI.two k j (by omega) hj hkj g1 hv ⟨by rw [g2, h1], by rw [g4, h2]⟩
theorem fill_one (T : Nat → EntM) (p a f pick : Int) : fillT T (oneE p a f) pick = setT T (spotT T (oneE p a f) pick) (oneE p a f) := rfl
theorem inv_fill {T : Nat → EntM} (hI : InvT T) (p a f pick : Int) : InvT (fillT T (oneE p a f) pick) := by
  have hso := spot_only hI p a f pick
  rw [fill_one]
  generalize spotT T (oneE p a f) pick = s at *
  refine ⟨fun i hi hv => ?_, fun i j hi hj hn h1 h2 => ?_⟩
  · unfold setT at *
    by_cases e : (i : Int) = s
    · rw [if_pos e]; exact ⟨rfl, rfl⟩
    · rw [if_neg e] at hv ⊢
      exact hI.own i hi hv
  · unfold setT at *
    by_cases e : (i : Int) = s
    · have e2 : ¬ (j : Int) = s := by omega
      rw [if_neg e2] at h2
      rw [if_pos e, if_neg e2]
      rintro ⟨x1, x2⟩
      exact hso j hj e2 h2 ⟨x1.symm, x2.symm⟩
    · rw [if_neg e] at h1
      by_cases e2 : (j : Int) = s
      · rw [if_neg e, if_pos e2]
        exact hso i hi e h1
      · rw [if_neg e2] at h2
        rw [if_neg e, if_neg e2]
        exact hI.two i j hi hj hn h1 h2
theorem look_fill {T : Nat → EntM} (hI : InvT T) (p a f pick : Int) : lookT (fillT T (oneE p a f) pick) p false a 0 = oneE p a f ∧ isT (fillT T (oneE p a f) pick) p false a 0 = true := by
  have hso := spot_only hI p a f pick
  have hbd := spot_bd T (oneE p a f) pick
  rw [fill_one]
  generalize spotT T (oneE p a f) pick = s at *
  obtain ⟨k, rfl⟩ := Int.eq_ofNat_of_zero_le hbd.1
  have hk : k < 16 := by omega
  have hat : atT (setT T (k : Int) (oneE p a f)) p false a 0 = k := by
    refine at_first hk ?_ fun j hj => ?_
    · unfold setT
      rw [if_pos rfl]
      unfold hitE oneE
      simp
    · unfold setT
      rw [if_neg (by omega)]
      cases hh : hitE p false a 0 (T j) with
      | false => rfl
      | true =>
        unfold hitE at hh
        simp only [Bool.and_eq_true, beq_iff_eq] at hh
        exact absurd ⟨hh.2.1, hh.2.2.2.1⟩ (hso j (by omega) (by omega) hh.1)
  unfold lookT isT
  rw [hat, if_neg (by omega), Int.toNat_natCast]
  exact ⟨if_pos rfl, decide_eq_true (by omega)⟩
theorem all_mem (T : Nat → EntM) : ∀ n i e, e ∈ allF T n i → ∃ j, i ≤ j ∧ j < i + n ∧ (T j).valid = true ∧ e = T j
  | 0, _, _, h => by cases h
  | n + 1, i, e, h => by
    unfold allF at h
    cases hv : (T i).valid
    · rw [hv, cond_false] at h
      obtain ⟨j, h1, h2, h3⟩ := all_mem T n (i + 1) e h
      exact ⟨j, by omega, by omega, h3⟩
    · rw [hv, cond_true] at h
      rcases List.mem_cons.1 h with h | h
      · exact ⟨i, by omega, by omega, hv, h⟩
      · obtain ⟨j, h1, h2, h3⟩ := all_mem T n (i + 1) e h
        exact ⟨j, by omega, by omega, h3⟩
theorem all_two {T : Nat → EntM} (hI : InvT T) : ∀ n i, i + n ≤ 16 → (allF T n i).Pairwise fun x y => ¬ (x.page = y.page ∧ x.asid = y.asid)
  | 0, _, _ => List.Pairwise.nil
  | n + 1, i, h => by
    have ih := all_two hI n (i + 1) (by omega)
    unfold allF
    cases hv : (T i).valid
    · rw [cond_false]; exact ih
    · rw [cond_true]
      refine List.Pairwise.cons (fun e he => ?_) ih
      obtain ⟨j, h1, h2, h3, rfl⟩ := all_mem T n (i + 1) e he
      exact hI.two i j (by omega) (by omega) (by omega) hv h3
/-- Of all that are there no two are of one page and mark. -/
theorem all_apart {T : Nat → EntM} (hI : InvT T) (k j : Nat) (hk : k < (allT T).length) (hj : j < k) : ¬ ((allT T)[k].page = ((allT T)[j]'(by omega)).page ∧ (allT T)[k].asid = ((allT T)[j]'(by omega)).asid) := by
  have hk' : k < (allF T 16 0).length := hk
  have h := List.pairwise_iff_getElem.1 (all_two hI 16 0 (by omega)) j k (by omega) hk' hj
  rintro ⟨h1, h2⟩
  exact h ⟨h1.symm, h2.symm⟩
end Go.Proofs.Ytlfaklabghhdkaa
