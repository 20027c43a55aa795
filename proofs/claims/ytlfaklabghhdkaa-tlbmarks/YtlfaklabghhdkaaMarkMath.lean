/-
  Eight entries of one page, of other marks. Plain facts: no call of the program is walked here.
-/
import Derived.Test.YtlfaklabghhdkaaFullMath
namespace Go.Proofs.Ytlfaklabghhdkaa
open Go.RowKit
/-- The i-th of them. -/
def mkE (p a c : Int) (i : Nat) : EntM := ⟨true, (i : Int) % 2 == 1, p, a + (i : Int) / 2 % 2, c + (i : Int) / 4, (i : Int), 0, 0, 0⟩
theorem mk_hit (p a c : Int) {i j : Nat} (hi : i < 8) (hj : j < 8) (h : i ≠ j) : hitE (mkE p a c i).page (mkE p a c i).v (mkE p a c i).asid (mkE p a c i).vmid (mkE p a c j) = false := by
  cases hh : hitE (mkE p a c i).page (mkE p a c i).v (mkE p a c i).asid (mkE p a c i).vmid (mkE p a c j) with
  | false => rfl
  | true =>
    exfalso
    unfold hitE mkE at hh
    simp only [Bool.and_eq_true, beq_iff_eq, beq_self_eq_true, true_and] at hh
    obtain ⟨h1, h2, h3⟩ := hh
    have h4 : decide ((j : Int) % 2 = 1) = decide ((i : Int) % 2 = 1) := h1
    have h5 := decide_eq_decide.1 h4
    omega
theorem mk_self (p a c : Int) (i : Nat) : hitE (mkE p a c i).page (mkE p a c i).v (mkE p a c i).asid (mkE p a c i).vmid (mkE p a c i) = true := by
  unfold hitE mkE
  simp
theorem mk_next (p a c : Int) (n : Nat) (hn : n < 8) : fillT (fstT (mkE p a c) n) (mkE p a c n) 0 = fstT (mkE p a c) (n + 1) :=
  fill_next (f := mkE p a c) (by omega) 0 (fun _ _ => rfl) fun j hj => mk_hit p a c hn (by omega) (by omega)
abbrev mkT (p a c : Int) : Nat → EntM := fstT (mkE p a c) 8
theorem mkT_in (p a c : Int) {i : Nat} (hi : i < 8) : mkT p a c i = mkE p a c i := if_pos hi
theorem mk_at (p a c : Int) (i : Nat) (hi : i < 8) : atT (mkT p a c) (mkE p a c i).page (mkE p a c i).v (mkE p a c i).asid (mkE p a c i).vmid = i := by
  refine at_first (by omega) ?_ fun j hj => ?_
  · rw [mkT_in p a c hi]; exact mk_self p a c i
  · rw [mkT_in p a c (by omega)]; exact mk_hit p a c hi (by omega) (by omega)
theorem mk_look (p a c : Int) (i : Nat) (hi : i < 8) : lookT (mkT p a c) (mkE p a c i).page (mkE p a c i).v (mkE p a c i).asid (mkE p a c i).vmid = mkE p a c i ∧ isT (mkT p a c) (mkE p a c i).page (mkE p a c i).v (mkE p a c i).asid (mkE p a c i).vmid = true := by
  unfold lookT isT
  rw [mk_at p a c i hi, if_neg (by omega), Int.toNat_natCast, mkT_in p a c hi]
  exact ⟨rfl, decide_eq_true (by omega)⟩
theorem mk_not (p a c : Int) (v : Bool) (x y : Int) : isT (mkT p a c) (p + 1) v x y = false := by
  have h : atT (mkT p a c) (p + 1) v x y = -1 := at_none fun j _ => by
    by_cases e : j < 8
    · rw [mkT_in p a c e]
      unfold hitE mkE
      have : (p == p + 1) = false := beq_eq_false_iff_ne.2 (by omega)
      simp [this]
    · rw [show mkT p a c j = entNone from if_neg e]
      rfl
  unfold isT
  rw [h]
  rfl
theorem mk_all (p a c : Int) : (allT (mkT p a c)).length = 8 := rfl
theorem eqE_frame {e f : EntM} (h : e.frame ≠ f.frame) : eqE e f = false := by
  cases hh : eqE e f with
  | false => rfl
  | true => exact absurd (by rw [eqE_eq hh]) h
theorem mk_drop (p a c : Int) : dropI (mkT p a c) (mkE p a c 3) = 3 := by
  refine find_first (sameP (mkT p a c) (mkE p a c 3)) 3 ?_ 16 0 (by omega) (by omega) fun j _ hj => ?_
  · unfold sameP
    rw [mkT_in p a c (by omega), eqE_self]
    rfl
  · unfold sameP
    rw [mkT_in p a c (by omega), eqE_frame (by unfold mkE; simp only; omega), Bool.and_false]
abbrev mkD (p a c : Int) : Nat → EntM := setT (mkT p a c) 3 entNone
theorem mk_dropT (p a c : Int) : dropT (mkT p a c) (mkE p a c 3) = mkD p a c := by
  unfold dropT
  rw [mk_drop, if_neg (by omega)]
theorem mk_drop2 (p a c : Int) : dropI (mkD p a c) (mkE p a c 3) = -1 := by
  refine find_none (sameP (mkD p a c) (mkE p a c 3)) 16 0 fun j _ hj => ?_
  unfold sameP
  by_cases e3 : j = 3
  · subst e3
    rfl
  · rw [show mkD p a c j = mkT p a c j from if_neg (by omega)]
    by_cases e : j < 8
    · rw [mkT_in p a c e, eqE_frame (by unfold mkE; simp only; omega), Bool.and_false]
    · rw [show mkT p a c j = entNone from if_neg e]
      rfl
theorem mk_dropT2 (p a c : Int) : dropT (mkD p a c) (mkE p a c 3) = mkD p a c := by
  unfold dropT
  rw [mk_drop2, if_pos (by omega)]
theorem mk_all2 (p a c : Int) : (allT (mkD p a c)).length = 7 := rfl
/-- The row of them. -/
def mkL (p a c : Int) (n : Nat) : List EntM := (List.range n).map (mkE p a c)
theorem mkL_len (p a c : Int) (n : Nat) : (mkL p a c n).length = n := by simp [mkL]
theorem mkL_snoc (p a c : Int) (n : Nat) : mkL p a c (n + 1) = mkL p a c n ++ [mkE p a c n] := by
  unfold mkL
  rw [List.range_succ, List.map_append]; rfl
theorem mkL_get (p a c : Int) (n i : Nat) (h : i < (mkL p a c n).length) : (mkL p a c n)[i] = mkE p a c i := by simp [mkL]
end Go.Proofs.Ytlfaklabghhdkaa
