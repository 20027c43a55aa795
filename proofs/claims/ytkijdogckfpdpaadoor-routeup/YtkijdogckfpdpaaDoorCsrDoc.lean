/-
  Registers of control, as the document tells them: their numbers, the bits that may be written; what is read, written, what stands for one in a guest, what waits. Plain facts: no call of the program is walked here.
-/
import Derived.Test.YtkijdogckfpdpaaDoorStBase
namespace Go.Proofs.YtkijdogckfpdpaaDoor
open Go.RowKit
def numL : List Int := [768, 770, 771, 772, 773, 832, 833, 834, 835, 843, 261, 320, 321, 322, 323, 384, 1536, 1538, 1539, 1605, 1603, 1664, 512, 517, 576, 577, 578, 579, 640]
def maskL : List Int := [824641853866, 15775231, 544, 1632, 18446744073709551612, 18446744073709551615, 18446744073709551612, 18446744073709551615, 18446744073709551615, 18446744073709551615, 18446744073709551612, 18446744073709551615, 18446744073709551612, 18446744073709551615, 18446744073709551615, 9223372036871487743, 7340992, 45567, 1088, 1088, 18446744073709551615, 9223372036871487743, 786722, 18446744073709551612, 18446744073709551615, 18446744073709551612, 18446744073709551615, 18446744073709551615, 9223372036871487743]
/-- The number of a register; -1 of none. -/
def numI (i : Int) : Int := if 0 ≤ i ∧ i < 29 then numL.getD i.toNat 0 else -1
/-- The register of a number; -1 of none. -/
def idxI (n : Int) : Int := match numL.findIdx? (· == n) with | some i => (i : Int) | none => -1
/-- The bits of a register that may be written; 0 of none. -/
def maskI (i : Int) : Int := if 0 ≤ i ∧ i < 29 then maskL.getD i.toNat 0 else 0
/-- v's bits within a mask, the others of what was there. -/
def putI (old v m : Int) : Int := bits .or .u64 (bits .andNot .u64 old m) (bits .and .u64 v m)
/-- Of MPP 2 becomes 0. -/
def mppI (v : Int) : Int := if bits .and .u64 (v / 2048) 3 = 2 then bits .andNot .u64 v 6144 else v
/-- What stands for a number in a guest. -/
def redI (n : Int) : Int := if n = 256 ∨ n = 260 ∨ n = 261 ∨ n = 320 ∨ n = 321 ∨ n = 322 ∨ n = 323 ∨ n = 384 then n + 256 else n
/-- What waits. -/
def penI (S : StM) (t l : Bool) : Int := bif l then bits .or .u64 (bif t then bits .or .u64 (S.C 19) 32 else S.C 19) 512 else (bif t then bits .or .u64 (S.C 19) 32 else S.C 19)
/-- What is read, and whether it is. -/
def rdC (S : StM) (n : Int) : Int := if 0 ≤ idxI n then S.C (idxI n).toNat else if n = 256 then bits .and .u64 (S.C 0) 786722 else if n = 260 then bits .and .u64 (S.C 3) 544 else if n = 516 then bits .and .u64 (S.C 3) 1088 / 2 else if n = 3074 then S.done else 0
def okC (n : Int) : Bool := decide (0 ≤ idxI n ∨ n = 256 ∨ n = 260 ∨ n = 516 ∨ n = 3074)
/-- What is written into a register. -/
def wrI (i : Nat) (old v : Int) : Int := if i = 0 then mppI (putI old v (maskI 0)) else putI old v (maskI (i : Int))
def wrS (S : StM) (n v : Int) : StM := if 0 ≤ idxI n then S.setC (idxI n).toNat (wrI (idxI n).toNat (S.C (idxI n).toNat) v) else if n = 256 then S.setC 0 (putI (S.C 0) v 786722) else if n = 260 then S.setC 3 (putI (S.C 3) v 544) else if n = 516 then S.setC 3 (putI (S.C 3) (v * 2 % 18446744073709551616) 1088) else S
theorem idx_yes {n : Int} (h : 0 ≤ idxI n) : ∃ i : Nat, i < 29 ∧ idxI n = i ∧ numI i = n ∧ ∀ j : Nat, j < i → numI j ≠ n := by
  unfold idxI at h ⊢
  cases hf : numL.findIdx? (· == n) with
  | none => rw [hf] at h; simp at h
  | some i =>
    obtain ⟨hi, hp, hno⟩ := List.findIdx?_eq_some_iff_getElem.1 hf
    have hi' : i < 29 := hi
    refine ⟨i, hi', rfl, ?_, fun j hj => ?_⟩
    · unfold numI
      rw [if_pos (by omega), Int.toNat_natCast, List.getD_eq_getElem?_getD, List.getElem?_eq_getElem hi]
      simpa using hp
    · have := hno j hj
      unfold numI
      rw [if_pos (by omega), Int.toNat_natCast, List.getD_eq_getElem?_getD, List.getElem?_eq_getElem (by omega)]
      simpa using this
theorem idx_no {n : Int} (h : ¬ 0 ≤ idxI n) : idxI n = -1 ∧ ∀ j : Nat, j < 29 → numI j ≠ n := by
  unfold idxI at h ⊢
  cases hf : numL.findIdx? (· == n) with
  | some i => rw [hf] at h; simp at h
  | none =>
    refine ⟨rfl, fun j hj => ?_⟩
    have hl : numL.length = 29 := rfl
    have hb := List.findIdx?_eq_none_iff.1 hf (numL[j]'(by rw [hl]; exact hj)) (List.getElem_mem _)
    unfold numI
    rw [if_pos (by omega), Int.toNat_natCast, List.getD_eq_getElem?_getD, List.getElem?_eq_getElem (by rw [hl]; exact hj), Option.getD_some]
    intro e
    rw [e] at hb
    simp at hb
theorem U_put (o v m : Int) : U (putI o v m) := U_wrap _
theorem U_mpp {v : Int} (h : U v) : U (mppI v) := by unfold mppI; split; exact U_wrap _; exact h
theorem U_wr (i : Nat) (o v : Int) : U (wrI i o v) := by unfold wrI; split; exact U_mpp (U_put _ _ _); exact U_put _ _ _
theorem StM.Ok.write {S : StM} (h : S.Ok) (n v : Int) : (wrS S n v).Ok := by
  unfold wrS
  split
  · exact h.setC _ (U_wr _ _ _)
  · split
    · exact h.setC _ (U_put _ _ _)
    · split
      · exact h.setC _ (U_put _ _ _)
      · split
        · exact h.setC _ (U_put _ _ _)
        · exact h
end Go.Proofs.YtkijdogckfpdpaaDoor
