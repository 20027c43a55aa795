/-
  Where a trap goes, as the document tells it: who takes an exception, which interrupt comes. Plain facts: no call of the program is walked here.
-/
import Derived.Test.YtkijdogckfpdpaaDoorCsrDoc
namespace Go.Proofs.YtkijdogckfpdpaaDoor
open Go.RowKit
/-- A bit, as the calls ask it. -/
def btB (x : Int) (k : Nat) : Bool := bits .and .u64 (x / 2 ^ k) 1 == 1
theorem and_one {x : Int} (hx : U x) (k : Nat) : bits .and .u64 (x / 2 ^ k) 1 = if tb x k then 1 else 0 := by
  have hU1 : U (1 : Int) := by unfold U; omega
  have hs := U_shr hx k
  have h1 : ∀ i, tb (1 : Int) i = decide (i = 0) := fun i => by
    unfold tb
    rw [show (1 : Int).toNat = 1 from rfl]
    cases i with
    | zero => rfl
    | succ i => rw [Nat.testBit_succ, show 1 / 2 = 0 from rfl, Nat.zero_testBit, decide_eq_false (by omega)]
  refine U.ext (U_and _ _) (by unfold U; split <;> omega) fun i _ => ?_
  rw [tb_and hs hU1, h1, tb_shr hx]
  by_cases hi : i = 0
  · subst hi
    rw [Nat.zero_add]
    cases tb x k
    · rfl
    · rfl
  · rw [decide_eq_false hi, Bool.and_false]
    split
    · rw [h1, decide_eq_false hi]
    · unfold tb; rw [show (0 : Int).toNat = 0 from rfl, Nat.zero_testBit]
theorem bt_tb {x : Int} (hx : U x) (k : Nat) : btB x k = tb x k := by
  unfold btB
  rw [and_one hx]
  cases tb x k <;> rfl
theorem bt_zero {x : Int} (hx : U x) (k : Nat) : (bits .and .u64 (x / 2 ^ k) 1 == 0) = !tb x k := by
  rw [and_one hx]
  cases tb x k <;> rfl
/-- Whether it goes down. -/
def dwnB (S : StM) (c : Int) : Bool := !(S.lvl == 3) && (decide (c ≤ 63) && tb (S.C 1) c.toNat)
def excL (S : StM) (c : Int) : Int := bif dwnB S c then 1 else 3
def excV (S : StM) (c : Int) : Bool := dwnB S c && (S.v && tb (S.C 17) c.toNat)
def enI (S : StM) (t l : Bool) : Int := bits .and .u64 (penI S t l) (S.C 3)
def mineI (S : StM) (on : Int) : Int := bits .andNot .u64 (bits .and .u64 on 544) (S.C 2)
def hostI (S : StM) (on : Int) : Int := bits .or .u64 (bits .and .u64 (bits .and .u64 on 544) (S.C 2)) (bits .andNot .u64 (bits .and .u64 on 1088) (S.C 18))
def gstI (S : StM) (on : Int) : Int := bits .and .u64 (bits .and .u64 on 1088) (S.C 18)
/-- The first of a row of bits that is on; -1. -/
def topI (x : Int) : List Nat → Int
  | [] => -1
  | k :: r => bif tb x k then (k : Int) else topI x r
def mayM (S : StM) : Bool := !(S.lvl == 3) || tb (S.C 0) 3
def mayH (S : StM) : Bool := !(S.lvl == 3) && (S.v || ((S.lvl == 0) || tb (S.C 0) 1))
def mayG (S : StM) : Bool := S.v && ((S.lvl == 0) || tb (S.C 22) 1)
/-- What comes: the cause, who takes it, whether the guest's; whether any. -/
structure IntM where
  c : Int
  l : Int
  v : Bool
  ok : Bool
def intM (S : StM) (t l : Bool) : IntM :=
  if 0 ≤ topI (mineI S (enI S t l)) [9, 5] ∧ mayM S = true then ⟨bits .or .u64 9223372036854775808 (topI (mineI S (enI S t l)) [9, 5]), 3, false, true⟩
  else if 0 ≤ topI (hostI S (enI S t l)) [9, 5, 10, 6] ∧ mayH S = true then ⟨bits .or .u64 9223372036854775808 (topI (hostI S (enI S t l)) [9, 5, 10, 6]), 1, false, true⟩
  else if 0 ≤ topI (gstI S (enI S t l)) [10, 6] ∧ mayG S = true then ⟨bits .or .u64 9223372036854775808 (topI (gstI S (enI S t l)) [10, 6] - 1), 1, true, true⟩
  else ⟨0, 0, false, false⟩
def intV (M : IntM) : Value := .tuple #[.int .u64 M.c, .int .i64 M.l, .bool M.v, .bool M.ok]
theorem top_bd (x : Int) : ∀ l : List Nat, (∀ k ∈ l, k < 64) → topI x l = -1 ∨ ∃ k : Nat, k ∈ l ∧ tb x k = true ∧ topI x l = (k : Int)
  | [], _ => .inl rfl
  | k :: r, h => by
    unfold topI
    cases ht : tb x k
    · rw [cond_false]
      rcases top_bd x r fun j hj => h j (List.mem_cons_of_mem _ hj) with e | ⟨j, h1, h2, h3⟩
      · exact .inl e
      · exact .inr ⟨j, List.mem_cons_of_mem _ h1, h2, h3⟩
    · rw [cond_true]
      exact .inr ⟨k, List.mem_cons_self, ht, rfl⟩
theorem top_rng (x : Int) (l : List Nat) (h : ∀ k ∈ l, 5 ≤ k ∧ k < 64) : topI x l = -1 ∨ (5 ≤ topI x l ∧ topI x l < 64) := by
  rcases top_bd x l fun k hk => (h k hk).2 with e | ⟨k, hk, _, e⟩
  · exact .inl e
  · have := h k hk
    exact .inr (by omega)
end Go.Proofs.YtkijdogckfpdpaaDoor
