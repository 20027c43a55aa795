/-
  What must be walked anew, as the document tells it: which entries go, how many. Plain facts: no call of the program is walked here.
-/
import Derived.Test.YtpfblbleendpiaaDoorTlDoc
import Derived.Test.YtpfblbleendpiaaDoorCsrDoc
namespace Go.Proofs.YtpfblbleendpiaaDoor
open Go.RowKit
/-- A number that is named, or any. -/
def namB (n want : Int) : Bool := (want == -1) || (n == want)
/-- The guest's mark. -/
def vmI (S : StM) : Int := S.C 21 / 65536 % 256
theorem vm_bd (S : StM) : 0 ≤ vmI S ∧ vmI S < 256 := by unfold vmI; omega
/-- Which entries a fence of V v, of a page, a mark, a guest's mark names. -/
def sfeB (S : StM) (v : Bool) (page asid : Int) (e : EntM) : Bool := e.valid && ((e.v == v) && (namB e.page page && (namB e.asid asid && (!v || (e.vmid == vmI S)))))
def hosB (frame vmid : Int) (e : EntM) : Bool := e.valid && (e.v && (namB e.guest frame && namB e.vmid vmid))
/-- The first k places without what is named; how many that were. -/
def wipeK (P : EntM → Bool) (T : Nat → EntM) (k : Nat) : Nat → EntM := fun j => bif decide (j < k) && P (T j) then entNone else T j
def cntK (P : EntM → Bool) (T : Nat → EntM) : Nat → Nat
  | 0 => 0
  | k + 1 => cntK P T k + (bif P (T k) then 1 else 0)
def wipeT (P : EntM → Bool) (T : Nat → EntM) : Nat → EntM := wipeK P T 16
def cntT (P : EntM → Bool) (T : Nat → EntM) : Nat := cntK P T 16
theorem cnt_le (P : EntM → Bool) (T : Nat → EntM) : ∀ k, cntK P T k ≤ k
  | 0 => Nat.le_refl 0
  | k + 1 => by
    have := cnt_le P T k
    unfold cntK
    cases P (T k)
    · rw [cond_false]; omega
    · rw [cond_true]; omega
theorem wipe_0 (P : EntM → Bool) (T : Nat → EntM) : wipeK P T 0 = T := by
  funext j
  unfold wipeK
  rw [decide_eq_false (by omega)]
  rfl
theorem wipe_at (P : EntM → Bool) (T : Nat → EntM) (k : Nat) : wipeK P T k k = T k := by
  unfold wipeK
  rw [decide_eq_false (by omega)]
  rfl
theorem wipe_yes {P : EntM → Bool} {T : Nat → EntM} {k : Nat} (h : P (T k) = true) : wipeK P T (k + 1) = setT (wipeK P T k) k entNone ∧ cntK P T (k + 1) = cntK P T k + 1 := by
  refine ⟨?_, by rw [cntK, h, cond_true]⟩
  funext j
  unfold setT wipeK
  by_cases e : j = k
  · subst e
    rw [if_pos rfl, h, decide_eq_true (by omega)]
    rfl
  · rw [if_neg (by omega)]
    by_cases hj : j < k
    · rw [decide_eq_true hj, decide_eq_true (by omega)]
    · rw [decide_eq_false hj, decide_eq_false (by omega)]
theorem wipe_no {P : EntM → Bool} {T : Nat → EntM} {k : Nat} (h : P (T k) = false) : wipeK P T (k + 1) = wipeK P T k ∧ cntK P T (k + 1) = cntK P T k := by
  refine ⟨?_, by rw [cntK, h, cond_false, Nat.add_zero]⟩
  funext j
  unfold wipeK
  by_cases e : j = k
  · subst e
    rw [h, Bool.and_false, Bool.and_false]
  · by_cases hj : j < k
    · rw [decide_eq_true hj, decide_eq_true (by omega)]
    · rw [decide_eq_false hj, decide_eq_false (by omega)]
end Go.Proofs.YtpfblbleendpiaaDoor
