/-
  What is named one by one goes as what is named at once; what is left. Plain facts: no call of the program is walked here.
-/
import Derived.Test.YtpfblbleendpiaaDoorKeyMath
namespace Go.Proofs.YtpfblbleendpiaaDoor
open Go.RowKit
theorem cnt_congr {P Q : EntM → Bool} {T : Nat → EntM} : ∀ k, (∀ i, i < k → P (T i) = Q (T i)) → cntK P T k = cntK Q T k
  | 0, _ => rfl
  | k + 1, h => by rw [cntK, cntK, cnt_congr k fun i hi => h i (by omega), h k (by omega)]
theorem wipe_congr {P Q : EntM → Bool} {T : Nat → EntM} (h : ∀ i, i < 16 → P (T i) = Q (T i)) : wipeT P T = wipeT Q T := by
  funext j
  unfold wipeT wipeK
  by_cases hj : j < 16
  · rw [h j hj]
  · rw [decide_eq_false hj, Bool.false_and, Bool.false_and]
theorem none_sfe {S : StM} {v : Bool} {p a : Int} : sfeB S v p a entNone = false := rfl
theorem none_hos {f m : Int} : hosB f m entNone = false := rfl
section
variable {S : StM} {v : Bool} {T : Nat → EntM}
theorem cnt_zero {P : EntM → Bool} : ∀ k, (∀ i, i < k → P (T i) = false) → cntK P T k = 0
  | 0, _ => rfl
  | k + 1, h => by rw [cntK, cnt_zero k fun i hi => h i (by omega), h k (by omega)]; rfl
theorem wipe_none {P : EntM → Bool} (h : ∀ i, i < 16 → P (T i) = false) : wipeT P T = T ∧ cntT P T = 0 := by
  refine ⟨?_, cnt_zero 16 h⟩
  funext j
  unfold wipeT wipeK
  by_cases hj : j < 16
  · rw [h j hj, Bool.and_false]; rfl
  · rw [decide_eq_false hj, Bool.false_and]; rfl
/-- What the first k of all name, one by one. -/
def eachB (S : StM) (v : Bool) (A : List EntM) (k : Nat) (e : EntM) : Bool := (A.take k).any fun x => sfeB S v x.page x.asid e
theorem each_0 (A : List EntM) : wipeT (eachB S v A 0) T = T ∧ cntT (eachB S v A 0) T = 0 := wipe_none fun _ _ => rfl
theorem each_val {A : List EntM} {k : Nat} {e : EntM} (h : eachB S v A k e = true) : e.valid = true := by
  unfold eachB at h
  obtain ⟨x, _, hx⟩ := List.any_eq_true.1 h
  exact sfe_val hx
theorem each_step (A : List EntM) {k : Nat} (hk : k < A.length) :
    wipeT (sfeB S v A[k].page A[k].asid) (wipeT (eachB S v A k) T) = wipeT (eachB S v A (k + 1)) T ∧ cntT (eachB S v A k) T + cntT (sfeB S v A[k].page A[k].asid) (wipeT (eachB S v A k) T) = cntT (eachB S v A (k + 1)) T := by
  have h : (fun e => eachB S v A k e || sfeB S v A[k].page A[k].asid e) = eachB S v A (k + 1) := by
    funext e
    unfold eachB
    rw [List.take_succ_eq_append_getElem hk, List.any_append, List.any_cons, List.any_nil, Bool.or_false]
  rw [wipe_wipe none_sfe, cnt_wipe (fun e => each_val) (fun e => sfe_val), h]
  exact ⟨rfl, rfl⟩
theorem nam_self (n : Int) : namB n n = true := by unfold namB; rw [beq_self_eq_true, Bool.or_true]
theorem nam_any (n : Int) : namB n (-1) = true := rfl
theorem each_all : ∀ i, i < 16 → eachB S v (allT T) (allT T).length (T i) = sfeB S v (-1) (-1) (T i) := fun i hi => by
  unfold eachB
  rw [List.take_length]
  cases h : sfeB S v (-1) (-1) (T i)
  · refine Bool.eq_false_iff.2 fun ha => ?_
    obtain ⟨x, _, hx⟩ := List.any_eq_true.1 ha
    unfold sfeB at h hx
    simp only [Bool.and_eq_true] at hx
    obtain ⟨h1, h2, _, _, h5⟩ := hx
    rw [h1, h2, nam_any, nam_any, h5] at h
    cases h
  · refine List.any_eq_true.2 ⟨T i, (mem_all 16 0 _).2 ⟨i, by omega, by omega, sfe_val h, rfl⟩, ?_⟩
    unfold sfeB at h ⊢
    simp only [Bool.and_eq_true] at h ⊢
    obtain ⟨h1, h2, _, _, h5⟩ := h
    exact ⟨h1, h2, nam_self _, nam_self _, h5⟩
theorem each_end : wipeT (eachB S v (allT T) (allT T).length) T = wipeT (sfeB S v (-1) (-1)) T ∧ cntT (eachB S v (allT T) (allT T).length) T = cntT (sfeB S v (-1) (-1)) T := ⟨wipe_congr each_all, cnt_congr 16 each_all⟩
theorem wiped_no {P : EntM → Bool} (hP : P entNone = false) (i : Nat) (hi : i < 16) : P (wipeT P T i) = false := by
  unfold wipeT wipeK
  rw [decide_eq_true hi, Bool.true_and]
  cases h : P (T i)
  · rw [cond_false, h]
  · rw [cond_true, hP]
/-- Named once more, nothing goes. -/
theorem again_none (S : StM) (v : Bool) (p a : Int) (T : Nat → EntM) : wipeT (sfeB S v p a) (wipeT (sfeB S v p a) T) = wipeT (sfeB S v p a) T ∧ cntT (sfeB S v p a) (wipeT (sfeB S v p a) T) = 0 := wipe_none fun i hi => wiped_no none_sfe i hi
/-- What is left isn't named. -/
theorem left_no {e : EntM} (h : e ∈ allT (wipeT (sfeB S v (-1) (-1)) T)) : ¬ (e.v = v ∧ (v = false ∨ e.vmid = vmI S)) := by
  rw [allT_wipe, List.mem_filter] at h
  obtain ⟨h1, h2⟩ := h
  obtain ⟨j, _, _, h3, rfl⟩ := (mem_all 16 0 _).1 h1
  rintro ⟨g1, g2⟩
  unfold sfeB at h2
  rw [h3, g1, nam_any, nam_any] at h2
  rcases g2 with g2 | g2
  · rw [g2] at h2; cases h2
  · rw [g2] at h2; simp at h2
/-- The host's and the guests', all of them. -/
theorem both_all {S : StM} (T : Nat → EntM) : cntT (hosB (-1) (-1)) T + cntT (sfeB S false (-1) (-1)) (wipeT (hosB (-1) (-1)) T) = (allT T).length ∧ (allT (wipeT (sfeB S false (-1) (-1)) (wipeT (hosB (-1) (-1)) T))).length = 0 := by
  have h : ∀ e : EntM, (hosB (-1) (-1) e || sfeB S false (-1) (-1) e) = e.valid := fun e => by
    unfold hosB sfeB
    simp only [nam_any]
    cases e.valid <;> cases e.v <;> rfl
  have hv : ∀ e ∈ allT T, e.valid = true := fun e he => by
    obtain ⟨j, _, _, h3, rfl⟩ := (mem_all 16 0 _).1 he
    exact h3
  rw [cnt_wipe (fun e => hos_val) (fun e => sfe_val), wipe_wipe none_sfe, cntT_all (fun e he => by rw [h e] at he; exact he), allT_wipe]
  refine ⟨?_, ?_⟩
  · rw [List.filter_eq_self.2 fun e he => by rw [h e]; exact hv e he]
  · rw [List.length_eq_zero_iff, List.filter_eq_nil_iff]
    intro e he
    rw [h e, hv e he]
    decide
end
/-- How many of the first i are of a kind. -/
def kN (Q : EntM → Bool) (A : List EntM) (i : Nat) : Nat := ((A.take i).filter Q).length
theorem kN_0 (Q : EntM → Bool) (A : List EntM) : kN Q A 0 = 0 := rfl
theorem kN_end (Q : EntM → Bool) (A : List EntM) : kN Q A A.length = (A.filter Q).length := by unfold kN; rw [List.take_length]
theorem kN_yes {Q : EntM → Bool} {A : List EntM} {i : Nat} (h : i < A.length) (hq : Q A[i] = true) : kN Q A (i + 1) = kN Q A i + 1 := by
  unfold kN
  rw [List.take_succ_eq_append_getElem h, List.filter_append, List.length_append, List.filter_cons_of_pos hq]
  rfl
theorem kN_no {Q : EntM → Bool} {A : List EntM} {i : Nat} (h : i < A.length) (hq : Q A[i] = false) : kN Q A (i + 1) = kN Q A i := by
  unfold kN
  rw [List.take_succ_eq_append_getElem h, List.filter_append, List.length_append, List.filter_cons_of_neg (by rw [hq]; decide)]
  rfl
theorem kN_at {Q : EntM → Bool} : ∀ (A : List EntM) (i : Nat) (h : i < A.length), Q A[i] = true → ∃ h2 : kN Q A i < (A.filter Q).length, (A.filter Q)[kN Q A i] = A[i]
  | a :: l, 0, _, hq => by
    have hq' : Q a = true := hq
    refine ⟨?_, ?_⟩
    · rw [List.filter_cons_of_pos hq', kN_0, List.length_cons]; omega
    · simp only [List.filter_cons_of_pos hq', kN_0]
      rfl
  | a :: l, i + 1, h, hq => by
    obtain ⟨h2, h3⟩ := kN_at l i (by simpa using h) hq
    cases ha : Q a
    · have e : kN Q (a :: l) (i + 1) = kN Q l i := by unfold kN; rw [List.take_succ_cons, List.filter_cons_of_neg (by rw [ha]; decide)]
      have e2 : (a :: l).filter Q = l.filter Q := List.filter_cons_of_neg (by rw [ha]; decide)
      refine ⟨by rw [e, e2]; exact h2, ?_⟩
      simp only [e, e2]
      exact h3
    · have e : kN Q (a :: l) (i + 1) = kN Q l i + 1 := by unfold kN; rw [List.take_succ_cons, List.filter_cons_of_pos ha]; rfl
      have e2 : (a :: l).filter Q = a :: l.filter Q := List.filter_cons_of_pos ha
      refine ⟨by rw [e, e2, List.length_cons]; omega, ?_⟩
      simp only [e, e2, List.getElem_cons_succ]
      exact h3
theorem eq_not {Q : EntM → Bool} {e f : EntM} (he : Q e = true) (hf : Q f = false) : eqE e f = false := by
  cases h : eqE e f
  · rfl
  · rw [eqE_eq h, hf] at he
    cases he
end Go.Proofs.YtpfblbleendpiaaDoor
