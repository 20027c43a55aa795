/-
  What goes one behind the other out of the row of all that is there. Plain facts: no call of the program is walked here.
-/
import Derived.Test.YtpfblbleendpiaaDoorFenMath
namespace Go.Proofs.YtpfblbleendpiaaDoor
open Go.RowKit
/-- Whether it is among the first k. -/
def inK (A : List EntM) (k : Nat) (e : EntM) : Bool := (A.take k).any fun x => eqE x e
theorem inK_mem {A : List EntM} {k : Nat} {e : EntM} : inK A k e = true ↔ e ∈ A.take k := by
  unfold inK
  rw [List.any_eq_true]
  constructor
  · rintro ⟨x, h1, h2⟩
    rw [← eqE_eq h2]; exact h1
  · intro h
    exact ⟨e, h, eqE_self e⟩
/-- What is left where what is named goes out of the first k. -/
def goneT (P : EntM → Bool) (T : Nat → EntM) (k : Nat) : Nat → EntM := wipeT (fun e => P e && inK (allT T) k e) T
theorem gone_at (P : EntM → Bool) (T : Nat → EntM) (k i : Nat) : goneT P T k i = bif decide (i < 16) && (P (T i) && inK (allT T) k (T i)) then entNone else T i := rfl
theorem gone_0 (P : EntM → Bool) (T : Nat → EntM) : goneT P T 0 = T := (wipe_none fun _ _ => by
  show (_ && inK _ 0 _) = false
  unfold inK
  rw [List.take_zero, List.any_nil, Bool.and_false]).1
theorem all_nodup {T : Nat → EntM} (hI : InvG T) : ∀ n i, i + n ≤ 16 → (allF T n i).Nodup
  | 0, _, _ => List.nodup_nil
  | n + 1, i, h => by
    have ih := all_nodup hI n (i + 1) (by omega)
    unfold allF
    cases hv : (T i).valid
    · exact ih
    · rw [cond_true, List.nodup_cons]
      refine ⟨fun hm => ?_, ih⟩
      obtain ⟨j, h1, h2, h3, h4⟩ := (mem_all n (i + 1) _).1 hm
      exact hI i j (by omega) (by omega) (by omega) hv (hit_iff.2 ⟨h3, by rw [h4], by rw [h4], by rw [h4], by rw [h4]⟩)
theorem inK_new {T : Nat → EntM} (hI : InvG T) {k : Nat} (hk : k < (allT T).length) : inK (allT T) k (allT T)[k] = false := by
  refine Bool.eq_false_iff.2 fun h => ?_
  have hn : (allT T).Nodup := all_nodup hI 16 0 (by omega)
  have hm := inK_mem.1 h
  obtain ⟨i, hi, he⟩ := List.getElem_of_mem hm
  rw [List.length_take] at hi
  rw [List.getElem_take] at he
  exact List.pairwise_iff_getElem.1 hn i k (by omega) hk (by omega) he
theorem inK_succ {A : List EntM} {k : Nat} (hk : k < A.length) (e : EntM) : inK A (k + 1) e = (inK A k e || eqE A[k] e) := by
  unfold inK
  rw [List.take_succ_eq_append_getElem hk, List.any_append, List.any_cons, List.any_nil, Bool.or_false]
theorem gone_no {P : EntM → Bool} {T : Nat → EntM} {k : Nat} (hk : k < (allT T).length) (hp : P (allT T)[k] = false) : goneT P T (k + 1) = goneT P T k := wipe_congr fun i _ => by
  show (P (T i) && inK _ (k + 1) (T i)) = (P (T i) && inK _ k (T i))
  rw [inK_succ hk]
  cases h : eqE (allT T)[k] (T i)
  · rw [Bool.or_false]
  · rw [← eqE_eq h, hp, Bool.false_and, Bool.false_and]
theorem gone_yes {P : EntM → Bool} {T : Nat → EntM} (hI : InvG T) {k : Nat} (hk : k < (allT T).length) (hp : P (allT T)[k] = true) : dropT (goneT P T k) (allT T)[k] = goneT P T (k + 1) ∧ 0 ≤ dropI (goneT P T k) (allT T)[k] := by
  have hnew := inK_new hI hk
  have hmem : (allT T)[k] ∈ allT T := List.getElem_mem hk
  have hs := fun e => inK_succ hk e
  generalize (allT T)[k] = a at *
  obtain ⟨j, _, hj, hv, rfl⟩ := (mem_all 16 0 _).1 hmem
  have hj16 : j < 16 := by omega
  have hone : ∀ i, i < 16 → i ≠ j → eqE (T j) (T i) = false := fun i hi hn => Bool.eq_false_iff.2 fun h => by
    have e := eqE_eq h
    exact hI j i hj16 hi (fun x => hn x.symm) hv (hit_iff.2 ⟨by rw [← e]; exact hv, by rw [← e], by rw [← e], by rw [← e], by rw [← e]⟩)
  have hat : goneT P T k j = T j := by
    simp only [gone_at]
    rw [hnew, Bool.and_false, Bool.and_false]; rfl
  have hfind : dropI (goneT P T k) (T j) = (j : Int) := by
    refine find_first _ j ?_ 16 0 (by omega) (by omega) fun i _ hi => ?_
    · unfold sameP
      rw [hat, hv, eqE_self]; rfl
    · unfold sameP
      refine Bool.eq_false_iff.2 fun h => ?_
      simp only [Bool.and_eq_true] at h
      obtain ⟨h1, h2⟩ := h
      have hw := wipe_val (P := fun e => P e && inK (allT T) k e) (T := T) (k := 16) (i := i) h1
      have h3 : eqE (goneT P T k i) (T j) = true := h2
      rw [show goneT P T k i = T i from hw.1] at h3
      have := hone i (by omega) (by omega)
      rw [eqE_eq h3, eqE_self] at this
      cases this
  refine ⟨?_, by rw [hfind]; omega⟩
  unfold dropT
  rw [hfind, if_neg (by omega)]
  funext i
  unfold setT
  by_cases e1 : i = j
  · subst e1
    rw [if_pos rfl]
    simp only [gone_at]
    rw [hs, eqE_self, hp, decide_eq_true hj16, Bool.or_true]; rfl
  · rw [if_neg (by omega)]
    simp only [gone_at]
    by_cases hi : i < 16
    · rw [hs, hone i hi e1, Bool.or_false]
    · rw [decide_eq_false hi, Bool.false_and, Bool.false_and]
theorem gone_end {P : EntM → Bool} (hP : ∀ e, P e = true → e.valid = true) (T : Nat → EntM) : goneT P T (allT T).length = wipeT P T := wipe_congr fun i hi => by
  show (P (T i) && inK _ _ (T i)) = P (T i)
  cases h : P (T i)
  · rfl
  · rw [Bool.true_and, inK_mem, List.take_length]
    exact (mem_all 16 0 _).2 ⟨i, by omega, by omega, hP _ h, rfl⟩
theorem kN_gone {P : EntM → Bool} (hP : ∀ e, P e = true → e.valid = true) (T : Nat → EntM) : kN P (allT T) (allT T).length = cntT P T := by rw [kN_end, cntT_all hP]
theorem kN_le (P : EntM → Bool) (A : List EntM) (k : Nat) : kN P A k ≤ k := by
  unfold kN
  have h1 := List.length_filter_le P (A.take k)
  have h2 : (A.take k).length ≤ k := by rw [List.length_take]; omega
  omega
theorem free_gone {P : EntM → Bool} {T : Nat → EntM} (h : ∀ i, i < 16 → (T i).valid = false → T i = entNone) (k : Nat) : ∀ i, i < 16 → (goneT P T k i).valid = false → goneT P T k i = entNone := fun i hi hv => by
  simp only [gone_at] at *
  cases hd : decide (i < 16) && (P (T i) && inK (allT T) k (T i))
  · rw [hd, cond_false] at hv
    rw [cond_false]; exact h i hi hv
  · rfl
theorem all_valid {T : Nat → EntM} {k : Nat} (hk : k < (allT T).length) : (allT T)[k].valid = true := by
  obtain ⟨j, _, _, hv, h⟩ := (mem_all 16 0 _).1 (List.getElem_mem hk : (allT T)[k] ∈ allT T)
  rw [← h]; exact hv
/-- What is named by a V and four numbers. -/
def nmdB (v : Bool) (page asid vmid frame : Int) (e : EntM) : Bool := e.valid && ((e.v == v) && (namB e.page page && (namB e.asid asid && (namB e.vmid vmid && namB e.guest frame))))
theorem nmd_val {v : Bool} {page asid vmid frame : Int} (e : EntM) (h : nmdB v page asid vmid frame e = true) : e.valid = true := by
  unfold nmdB at h
  cases hv : e.valid
  · rw [hv] at h; cases h
  · rfl
theorem nmd_sfe_f (S : StM) (page asid : Int) : nmdB false page asid (-1) (-1) = sfeB S false page asid := by
  funext e
  unfold nmdB sfeB
  rw [nam_any, nam_any]; rfl
theorem nmd_sfe_t (S : StM) (page asid : Int) : nmdB true page asid (vmI S) (-1) = sfeB S true page asid := by
  funext e
  have h : namB e.vmid (vmI S) = (e.vmid == vmI S) := by
    unfold namB
    have h0 := vm_bd S
    rw [show (vmI S == -1) = false from beq_eq_false_iff_ne.2 (by omega), Bool.false_or]
  unfold nmdB sfeB
  rw [nam_any, h]
  simp
theorem nmd_hos (frame vmid : Int) : nmdB true (-1) (-1) vmid frame = hosB frame vmid := by
  funext e
  unfold nmdB hosB
  rw [nam_any, nam_any, Bool.true_and, Bool.true_and, Bool.and_comm (namB e.vmid vmid)]
  cases e.v <;> rfl
end Go.Proofs.YtpfblbleendpiaaDoor
