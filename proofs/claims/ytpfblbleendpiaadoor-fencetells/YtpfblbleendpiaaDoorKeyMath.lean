/-
  No two entries of one page and marks; what is left where some go; how many these are. Plain facts: no call of the program is walked here.
-/
import Derived.Test.YtpfblbleendpiaaDoorFenDoc
namespace Go.Proofs.YtpfblbleendpiaaDoor
open Go.RowKit
/-- No two entries of one page and marks. -/
def InvG (T : Nat → EntM) : Prop := ∀ i j, i < 16 → j < 16 → i ≠ j → (T i).valid = true → ¬ hitE (T i).page (T i).v (T i).asid (T i).vmid (T j) = true
theorem invG_none : InvG noneT := fun _ _ _ _ _ h => Bool.noConfusion h
theorem hit_iff {p : Int} {v : Bool} {a m : Int} {e : EntM} : hitE p v a m e = true ↔ e.valid = true ∧ e.page = p ∧ e.v = v ∧ e.asid = a ∧ e.vmid = m := by
  unfold hitE
  simp only [Bool.and_eq_true, beq_iff_eq]
theorem find_some {h : Nat → Bool} {j : Nat} (hj : j < 16) (hh : h j = true) : ∃ k : Nat, k < 16 ∧ h k = true ∧ findF h 16 0 = (k : Int) := by
  rcases find_cases h 16 0 with e | ⟨k, _, k1, k2, e⟩
  · have : ∀ n i : Nat, i ≤ j → j < i + n → findF h n i ≠ -1 := by
      intro n
      induction n with
      | zero => intro i h0 h1; omega
      | succ n ih =>
        intro i h0 h1
        unfold findF
        cases hi : h i
        · rw [cond_false]
          by_cases e : i = j
          · rw [e, hh] at hi
            cases hi
          · exact ih (i + 1) (by omega) (by omega)
        · rw [cond_true]; omega
    exact absurd e (this 16 0 (by omega) (by omega))
  · exact ⟨k, by omega, k2, e⟩
theorem spot_onlyG {T : Nat → EntM} (hI : InvG T) (e : EntM) (pick : Int) (j : Nat) (hj : j < 16) (hn : (j : Int) ≠ spotT T e pick) : ¬ hitE e.page e.v e.asid e.vmid (T j) = true := by
  intro hh
  obtain ⟨k, k1, k2, k3⟩ := find_some (h := hitP T e.page e.v e.asid e.vmid) hj hh
  have hs : spotT T e pick = (k : Int) := by
    unfold spotT atT
    rw [k3, if_pos (by omega)]
  have hkj : k ≠ j := fun x => hn (by rw [hs, x])
  obtain ⟨g1, g2, g3, g4, g5⟩ := hit_iff.1 k2
  refine hI k j k1 hj hkj g1 ?_
  rw [g2, g3, g4, g5]
  exact hh
theorem inv_fillG {T : Nat → EntM} (hI : InvG T) (e : EntM) (pick : Int) : InvG (fillT T e pick) := by
  cases hv : e.valid
  · rwa [show fillT T e pick = T by unfold fillT; rw [hv]; rfl]
  · rw [show fillT T e pick = setT T (spotT T e pick) e by unfold fillT; rw [hv]; rfl]
    have hso := spot_onlyG hI e pick
    generalize spotT T e pick = s at *
    intro i j hi hj hn h1 h2
    unfold setT at h1 h2
    by_cases e1 : (i : Int) = s
    · have e2 : ¬ (j : Int) = s := by omega
      rw [if_pos e1, if_neg e2] at h2
      exact hso j hj e2 h2
    · rw [if_neg e1] at h1 h2
      by_cases e2 : (j : Int) = s
      · rw [if_pos e2] at h2
        obtain ⟨_, g2, g3, g4, g5⟩ := hit_iff.1 h2
        exact hso i hi e1 (hit_iff.2 ⟨h1, g2.symm, g3.symm, g4.symm, g5.symm⟩)
      · rw [if_neg e2] at h2
        exact hI i j hi hj hn h1 h2
theorem wipe_val {P : EntM → Bool} {T : Nat → EntM} {k i : Nat} (h : (wipeK P T k i).valid = true) : wipeK P T k i = T i ∧ (i < k → P (T i) = false) := by
  unfold wipeK at *
  cases hd : decide (i < k) && P (T i)
  · rw [cond_false]
    refine ⟨rfl, fun hi => ?_⟩
    rwa [decide_eq_true hi, Bool.true_and] at hd
  · rw [hd] at h
    exact Bool.noConfusion h
theorem inv_wipe {T : Nat → EntM} (hI : InvG T) (P : EntM → Bool) (k : Nat) : InvG (wipeK P T k) := fun i j hi hj hn h1 h2 => by
  have g1 := wipe_val h1
  have g2 := wipe_val (hit_iff.1 h2).1
  rw [g1.1] at h1 h2
  rw [g2.1] at h2
  exact hI i j hi hj hn h1 h2
/-- What is there is in the row of all. -/
theorem mem_all {T : Nat → EntM} : ∀ (n i : Nat) (e : EntM), e ∈ allF T n i ↔ ∃ j, i ≤ j ∧ j < i + n ∧ (T j).valid = true ∧ T j = e
  | 0, i, e => by
    unfold allF
    exact ⟨fun h => absurd h List.not_mem_nil, fun ⟨j, h1, h2, _⟩ => by omega⟩
  | n + 1, i, e => by
    unfold allF
    have ih := mem_all (T := T) n (i + 1) e
    cases hv : (T i).valid
    · rw [cond_false, ih]
      constructor
      · rintro ⟨j, h1, h2, h3, h4⟩
        exact ⟨j, by omega, by omega, h3, h4⟩
      · rintro ⟨j, h1, h2, h3, h4⟩
        by_cases x : j = i
        · rw [x, hv] at h3
          cases h3
        · exact ⟨j, by omega, by omega, h3, h4⟩
    · rw [cond_true, List.mem_cons, ih]
      constructor
      · rintro (h | ⟨j, h1, h2, h3, h4⟩)
        · exact ⟨i, by omega, by omega, hv, h.symm⟩
        · exact ⟨j, by omega, by omega, h3, h4⟩
      · rintro ⟨j, h1, h2, h3, h4⟩
        by_cases x : j = i
        · exact .inl (by rw [← h4, x])
        · exact .inr ⟨j, by omega, by omega, h3, h4⟩
theorem all_wipe (P : EntM → Bool) (T : Nat → EntM) (k : Nat) : ∀ n i, i + n ≤ k → allF (wipeK P T k) n i = (allF T n i).filter fun e => !P e
  | 0, _, _ => rfl
  | n + 1, i, h => by
    unfold allF
    have ih := all_wipe P T k n (i + 1) (by omega)
    rw [ih]
    have hw : wipeK P T k i = bif P (T i) then entNone else T i := by
      unfold wipeK
      rw [decide_eq_true (show i < k by omega), Bool.true_and]
    rw [hw]
    cases hp : P (T i)
    · rw [cond_false]
      cases (T i).valid
      · rw [cond_false, cond_false]
      · rw [cond_true, cond_true, List.filter_cons_of_pos (by rw [hp]; rfl)]
    · rw [cond_true, show entNone.valid = false from rfl, cond_false]
      cases (T i).valid
      · rw [cond_false]
      · rw [cond_true, List.filter_cons_of_neg (by rw [hp]; decide)]
theorem allT_wipe (P : EntM → Bool) (T : Nat → EntM) : allT (wipeT P T) = (allT T).filter fun e => !P e := all_wipe P T 16 16 0 (by omega)
theorem cnt_all {P : EntM → Bool} (hP : ∀ e, P e = true → e.valid = true) (T : Nat → EntM) : ∀ k, cntK P T k = ((allF T k 0).filter P).length
  | 0 => rfl
  | k + 1 => by
    rw [cntK, cnt_all hP T k, all_snoc, Nat.zero_add, List.filter_append, List.length_append]
    congr 1
    cases hp : P (T k)
    · rw [cond_false]
      cases (T k).valid
      · rfl
      · rw [cond_true, List.filter_cons_of_neg (by rw [hp]; decide)]; rfl
    · rw [cond_true, hP _ hp, cond_true, List.filter_cons_of_pos hp]; rfl
theorem cntT_all {P : EntM → Bool} (hP : ∀ e, P e = true → e.valid = true) (T : Nat → EntM) : cntT P T = ((allT T).filter P).length := cnt_all hP T 16
theorem wipe_wipe {G Q : EntM → Bool} (hQ : Q entNone = false) (T : Nat → EntM) : wipeT Q (wipeT G T) = wipeT (fun e => G e || Q e) T := by
  funext j
  unfold wipeT wipeK
  cases hd : decide (j < 16)
  · simp only [Bool.false_and, cond_false]
  · simp only [Bool.true_and]
    cases hg : G (T j)
    · rw [cond_false, Bool.false_or]
    · rw [cond_true, hQ, cond_false, Bool.true_or, cond_true]
theorem filt_two {α : Type} (G Q : α → Bool) : ∀ l : List α, (l.filter G).length + ((l.filter fun e => !G e).filter Q).length = (l.filter fun e => G e || Q e).length
  | [] => rfl
  | a :: l => by
    have ih := filt_two G Q l
    cases hg : G a
    · rw [List.filter_cons_of_neg (by rw [hg]; decide), List.filter_cons_of_pos (p := fun e => !G e) (by rw [hg]; rfl)]
      cases hq : Q a
      · rw [List.filter_cons_of_neg (by rw [hq]; decide), List.filter_cons_of_neg (p := fun e => G e || Q e) (by rw [hg, hq]; decide)]
        exact ih
      · rw [List.filter_cons_of_pos hq, List.filter_cons_of_pos (p := fun e => G e || Q e) (by rw [hg, hq]; rfl), List.length_cons, List.length_cons]
        omega
    · rw [List.filter_cons_of_pos hg, List.filter_cons_of_neg (p := fun e => !G e) (by rw [hg]; decide), List.filter_cons_of_pos (p := fun e => G e || Q e) (by rw [hg]; rfl), List.length_cons, List.length_cons]
      omega
theorem cnt_wipe {G Q : EntM → Bool} (hG : ∀ e, G e = true → e.valid = true) (hQ : ∀ e, Q e = true → e.valid = true) (T : Nat → EntM) : cntT G T + cntT Q (wipeT G T) = cntT (fun e => G e || Q e) T := by
  rw [cntT_all hG, cntT_all hQ, allT_wipe, cntT_all (P := fun e => G e || Q e) (fun e h => by
    cases hg : G e
    · rw [hg, Bool.false_or] at h; exact hQ e h
    · exact hG e hg)]
  exact filt_two G Q (allT T)
theorem sfe_val {S : StM} {v : Bool} {page asid : Int} {e : EntM} (h : sfeB S v page asid e = true) : e.valid = true := by
  unfold sfeB at h
  cases hv : e.valid
  · rw [hv] at h; cases h
  · rfl
theorem hos_val {frame vmid : Int} {e : EntM} (h : hosB frame vmid e = true) : e.valid = true := by
  unfold hosB at h
  cases hv : e.valid
  · rw [hv] at h; cases h
  · rfl
end Go.Proofs.YtpfblbleendpiaaDoor
