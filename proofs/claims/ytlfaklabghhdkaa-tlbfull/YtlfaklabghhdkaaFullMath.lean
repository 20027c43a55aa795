/-
  Entries filled one behind the other: what is there then. Plain facts: no call of the program is walked here.
-/
import Derived.Test.YtlfaklabghhdkaaTlDoc
namespace Go.Proofs.Ytlfaklabghhdkaa
open Go.RowKit
/-- An entry of a page alone. -/
def pgE (p : Int) : EntM := ⟨true, false, p, 0, 0, 0, 0, 0, 0⟩
/-- The first n places filled. -/
def fstT (f : Nat → EntM) (n : Nat) : Nat → EntM := fun j => if j < n then f j else entNone
theorem fst_zero (f : Nat → EntM) : fstT f 0 = noneT := by
  funext j
  unfold fstT noneT
  rw [if_neg (by omega)]
theorem none_hit (page : Int) (v : Bool) (asid vmid : Int) : hitE page v asid vmid entNone = false := rfl
theorem at_none {T : Nat → EntM} {page : Int} {v : Bool} {asid vmid : Int} (h : ∀ j, j < 16 → hitE page v asid vmid (T j) = false) : atT T page v asid vmid = -1 :=
  find_none _ 16 0 fun j _ hj => h j (by omega)
theorem at_first {T : Nat → EntM} {page : Int} {v : Bool} {asid vmid : Int} {k : Nat} (hk : k < 16) (h1 : hitE page v asid vmid (T k) = true) (h : ∀ j, j < k → hitE page v asid vmid (T j) = false) : atT T page v asid vmid = k :=
  find_first (hitP T page v asid vmid) k h1 16 0 (by omega) (by omega) fun j _ hj => h j hj
/-- One more, where none of those there is meant. -/
theorem fill_next {f : Nat → EntM} {n : Nat} (hn : n < 16) (pick : Int) (hv : ∀ j, j ≤ n → (f j).valid = true)
    (h : ∀ j, j < n → hitE (f n).page (f n).v (f n).asid (f n).vmid (f j) = false) : fillT (fstT f n) (f n) pick = fstT f (n + 1) := by
  have h1 : atT (fstT f n) (f n).page (f n).v (f n).asid (f n).vmid = -1 := at_none fun j hj => by
    unfold fstT
    by_cases e : j < n
    · rw [if_pos e]; exact h j e
    · rw [if_neg e]; rfl
  have h2 : findF (freeP (fstT f n)) 16 0 = n := by
    refine find_first (freeP (fstT f n)) n ?_ 16 0 (by omega) (by omega) fun j _ hj => ?_
    · unfold freeP fstT
      rw [if_neg (by omega)]; rfl
    · unfold freeP fstT
      rw [if_pos hj, hv j (by omega)]; rfl
  unfold fillT spotT
  rw [hv n (by omega), cond_true, h1, if_neg (by omega), h2, if_pos (by omega)]
  funext j
  unfold setT fstT
  by_cases e : j = n
  · subst e
    rw [if_pos rfl, if_pos (by omega)]
  · rw [if_neg (by omega)]
    by_cases e2 : j < n
    · rw [if_pos e2, if_pos (by omega)]
    · rw [if_neg e2, if_neg (by omega)]
/-- With no room the picked place's goes. -/
theorem fill_full {T : Nat → EntM} (hv : ∀ j, j < 16 → (T j).valid = true) {e : EntM} (he : e.valid = true) (pick : Int) (h : ∀ j, j < 16 → hitE e.page e.v e.asid e.vmid (T j) = false) : fillT T e pick = setT T (pick % 16) e := by
  have h2 : findF (freeP T) 16 0 = -1 := find_none _ 16 0 fun j _ hj => by
    unfold freeP
    rw [hv j (by omega)]; rfl
  unfold fillT spotT
  rw [he, cond_true, at_none h, if_neg (by omega), h2, if_neg (by omega)]
/-- All of a row that is full. -/
theorem all_full (T : Nat → EntM) : ∀ n i, (∀ j, i ≤ j → j < i + n → (T j).valid = true) → allF T n i = (List.range n).map fun j => T (i + j)
  | 0, _, _ => rfl
  | n + 1, i, h => by
    rw [all_snoc, all_full T n i (fun j h1 h2 => h j h1 (by omega)), h (i + n) (by omega) (by omega), cond_true, List.range_succ, List.map_append]
    rfl
/-- The statement's own. -/
def fullT (pick : Int) : Nat → EntM := setT (fstT (fun j => pgE j) 16) (pick % 16) (pgE 100)
theorem full_valid (pick : Int) (j : Nat) (hj : j < 16) : (fullT pick j).valid = true := by
  unfold fullT setT fstT
  split
  · rfl
  · rfl
theorem full_page (pick : Int) (j : Nat) (hj : j < 16) : (fullT pick j).page = if (j : Int) = pick % 16 then 100 else (j : Int) := by
  unfold fullT setT fstT
  split
  · rfl
  · rfl
theorem full_next (n : Nat) (hn : n < 16) : fillT (fstT (fun j => pgE j) n) (pgE n) 7 = fstT (fun j => pgE j) (n + 1) :=
  fill_next (f := fun j => pgE j) hn 7 (fun _ _ => rfl) fun j hj => by
    unfold hitE pgE
    have : (((j : Nat) : Int) == (n : Int)) = false := beq_eq_false_iff_ne.2 (by omega)
    simp [this]
theorem full_last (pick : Int) : fillT (fstT (fun j => pgE j) 16) (pgE 100) pick = fullT pick :=
  fill_full (fun j hj => by unfold fstT; rw [if_pos hj]; rfl) rfl pick fun j hj => by
    unfold fstT
    rw [if_pos hj]
    unfold hitE pgE
    have : (((j : Nat) : Int) == 100) = false := beq_eq_false_iff_ne.2 (by omega)
    simp [this]
theorem full_all (pick : Int) : allT (fullT pick) = (List.range 16).map (fullT pick) := by
  unfold allT
  rw [all_full _ 16 0 fun j _ hj => full_valid pick j (by omega)]
  simp
theorem full_len (pick : Int) : (allT (fullT pick)).length = 16 := by rw [full_all, List.length_map, List.length_range]
theorem full_get (pick : Int) (j : Nat) (_hj : j < 16) (h : j < (allT (fullT pick)).length) : (allT (fullT pick))[j] = fullT pick j := by
  simp [full_all]
theorem full_not (pick : Int) : isT (fullT pick) 50 false 0 0 = false := by
  have h : atT (fullT pick) 50 false 0 0 = -1 := at_none fun j hj => by
    have hp := full_page pick j hj
    unfold hitE
    have : ((fullT pick j).page == 50) = false := beq_eq_false_iff_ne.2 (by rw [hp]; split <;> omega)
    simp [this]
  unfold isT
  rw [h]
  rfl
end Go.Proofs.Ytlfaklabghhdkaa
