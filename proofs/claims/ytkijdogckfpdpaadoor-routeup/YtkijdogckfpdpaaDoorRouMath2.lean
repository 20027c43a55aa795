/-
  One bit set, and who takes an exception then. Plain facts: no call of the program is walked here.
-/
import Derived.Test.YtkijdogckfpdpaaDoorRouMath
namespace Go.Proofs.YtkijdogckfpdpaaDoor
open Go.RowKit
/-- A number with one bit. -/
structure OneB (p : Int) (n : Nat) : Prop where
  u : U p
  b : ∀ k, k < 64 → tb p k = decide (k = n)
theorem one_shl (n : Nat) : OneB (IntKind.u64.wrap (1 * 2 ^ n)) n := by
  have h1 : U (1 : Int) := by unfold U; omega
  refine ⟨U_wrap _, fun k hk => ?_⟩
  rw [tb_shl h1]
  have t1 : ∀ i, tb (1 : Int) i = decide (i = 0) := fun i => by
    unfold tb
    rw [show (1 : Int).toNat = 1 from rfl]
    cases i with
    | zero => rfl
    | succ i => rw [Nat.testBit_succ, show 1 / 2 = 0 from rfl, Nat.zero_testBit, decide_eq_false (by omega)]
  rw [t1, decide_eq_true hk, Bool.true_and]
  by_cases e : k = n
  · rw [decide_eq_true e, decide_eq_true (by omega), decide_eq_true (by omega)]; rfl
  · rw [decide_eq_false e]
    by_cases e2 : n ≤ k
    · rw [decide_eq_true e2, decide_eq_false (by omega)]; rfl
    · rw [decide_eq_false e2]; rfl
theorem shl_pow {n : Nat} (hn : n < 64) : IntKind.u64.wrap (1 * 2 ^ n) = 2 ^ n := by
  have h : (2 : Int) ^ n < 2 ^ 64 := by
    have := Nat.pow_lt_pow_right (a := 2) (by omega) hn
    have h2 : ((2 ^ n : Nat) : Int) < ((2 ^ 64 : Nat) : Int) := by exact_mod_cast this
    simpa using h2
  have h0 : (0 : Int) ≤ 2 ^ n := by
    have : ((0 : Nat) : Int) ≤ ((2 ^ n : Nat) : Int) := by exact_mod_cast Nat.zero_le _
    simpa using this
  rw [Int.one_mul, IntKind.wrap_u64]
  omega
def b1S (C : StM) : StM := ((setV (setLvl C 0) true).setC 1 0).setC 17 0
def b2S (C : StM) (p : Int) : StM := (b1S C).setC 1 p
def b3S (C : StM) (p : Int) : StM := (b2S C p).setC 17 p
def b4S (C : StM) (p : Int) : StM := setV (b3S C p) false
section
variable {C : StM} {p : Int} {n d : Nat}
theorem bits_1 (n : Nat) : excL (b1S C) (n : Int) = 3 ∧ excV (b1S C) (n : Int) = false := by
  have h : dwnB (b1S C) (n : Int) = false := by
    unfold dwnB
    rw [show (b1S C).C 1 = 0 from rfl, tb_none, Bool.and_false, Bool.and_false]
  unfold excL excV
  rw [h]
  exact ⟨rfl, rfl⟩
theorem down_2 (hp : OneB p n) (hd : d < 24) : dwnB (b2S C p) (d : Int) = decide (d = n) := by
  unfold dwnB
  rw [show (b2S C p).C 1 = p from rfl, Int.toNat_natCast, hp.b d (by omega), decide_eq_true (show (d : Int) ≤ 63 by omega), Bool.true_and]
  rw [show (b2S C p).lvl = 0 from rfl]
  rfl
theorem bits_2 (hp : OneB p n) (hn : n < 24) : excL (b2S C p) (n : Int) = 1 ∧ excV (b2S C p) (n : Int) = false := by
  unfold excL excV
  rw [down_2 hp hn, decide_eq_true rfl]
  refine ⟨rfl, ?_⟩
  rw [show (b2S C p).C 17 = 0 from rfl, tb_none, Bool.and_false, Bool.and_false]
theorem bits_e (hp : OneB p n) (hd : d < 24) : (excL (b2S C p) (d : Int) == 1) = ((n : Int) == (d : Int)) := by
  unfold excL
  rw [down_2 hp hd]
  by_cases e : d = n
  · rw [decide_eq_true e, e, beq_self_eq_true]; rfl
  · rw [decide_eq_false e]
    exact (beq_eq_false_iff_ne.2 (by omega : (n : Int) ≠ (d : Int))).symm ▸ rfl
theorem bits_3 (hp : OneB p n) (hn : n < 24) : excL (b3S C p) (n : Int) = 1 ∧ excV (b3S C p) (n : Int) = true := by
  have h : dwnB (b3S C p) (n : Int) = true := by
    have := down_2 (C := C) hp hn
    rw [decide_eq_true rfl] at this
    exact this
  unfold excL excV
  rw [h]
  refine ⟨rfl, ?_⟩
  rw [show (b3S C p).C 17 = p from rfl, Int.toNat_natCast, hp.b n (by omega), decide_eq_true rfl]
  rfl
theorem bits_4 (hp : OneB p n) (hn : n < 24) : excL (b4S C p) (n : Int) = 1 ∧ excV (b4S C p) (n : Int) = false := by
  have h : dwnB (b4S C p) (n : Int) = true := by
    have := down_2 (C := C) hp hn
    rw [decide_eq_true rfl] at this
    exact this
  unfold excL excV
  rw [h]
  exact ⟨rfl, rfl⟩
end
end Go.Proofs.YtkijdogckfpdpaaDoor
