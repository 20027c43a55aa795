/-
  What the Read of the document's memory does: walked whole, for every argument.
-/
import Derived.Test.YtpplclenokfpeaaDoorRefMem
namespace Go.Proofs.YtpplclenokfpeaaDoor
open Go.RowKit
/-- One byte more, from below. -/
theorem rd_step {B : Nat → Int} {a k n : Nat} (hk : k < n) (h : a + n ≤ 32768) (hn : n ≤ 8) (hb : ∀ i, i < 32768 → 0 ≤ B i ∧ B i < 256) :
    bits .or .u64 (IntKind.u64.wrap (rdF B (a + (k + 1)) (n - (k + 1)) * 256)) (B (a + k)) = rdF B (a + k) (n - k) := by
  have h1 := rd_bd (B := B) (n - (k + 1)) (a + (k + 1)) (by omega) hb
  have h2 := hb (a + k) (by omega)
  have h3 : (256 : Int) ^ (n - (k + 1)) ≤ 256 ^ 7 := by
    have hj : n - (k + 1) = 0 ∨ n - (k + 1) = 1 ∨ n - (k + 1) = 2 ∨ n - (k + 1) = 3 ∨ n - (k + 1) = 4 ∨ n - (k + 1) = 5 ∨ n - (k + 1) = 6 ∨ n - (k + 1) = 7 := by omega
    rcases hj with hj | hj | hj | hj | hj | hj | hj | hj <;> rw [hj] <;> decide
  have e : rdF B (a + k) (n - k) = B (a + k) + 256 * rdF B (a + (k + 1)) (n - (k + 1)) := by
    rw [show n - k = (n - (k + 1)) + 1 by omega, rdF, show a + k + 1 = a + (k + 1) by omega]
  generalize rdF B (a + (k + 1)) (n - (k + 1)) = v at *
  generalize B (a + k) = b at *
  have hv : v < 72057594037927936 := by omega
  rw [e, IntKind.wrap_u64, Int.emod_eq_of_lt (by omega) (by omega)]
  have hz : bits .and .u64 (v * 256) b = 0 := by
    have hU1 : U (v * 256) := by unfold U; omega
    have hU2 : U b := by unfold U; omega
    refine (U_and _ _).ext ⟨by omega, by omega⟩ fun i hi => ?_
    rw [tb_and hU1 hU2, show tb 0 i = false by simp [tb]]
    obtain ⟨V, rfl, _⟩ := (show U v by unfold U; omega).nat
    obtain ⟨C, rfl, hC⟩ := hU2.nat
    by_cases h8 : i < 8
    · rw [show tb ((V : Int) * 256) i = false by
        unfold tb
        rw [show ((V : Int) * 256).toNat = V * 2 ^ 8 by omega, Nat.testBit_mul_two_pow]
        simp [show ¬ 8 ≤ i by omega]]
      rfl
    · rw [show tb (C : Int) i = false by
        unfold tb
        rw [Int.toNat_natCast]
        exact Nat.testBit_lt_two_pow (Nat.lt_of_lt_of_le (show C < 2 ^ 8 by omega) (Nat.pow_le_pow_right (by decide) (by omega)))]
      simp
  have hs := sum_or (x := v * 256) (y := b) (by unfold U; omega) (by unfold U; omega) hz
  omega
set_option maxHeartbeats 1000000 in
theorem rread_any (a : Nat) (n : Nat) (hn : n ≤ 8) (h : a + n ≤ 32768) (w : World) (p q : Nat) (B : Nat → Int) (hm : RefAt w p q B) :
    Calls Tryd.prog 57 #[.pointer (some ⟨p, 0, none⟩), .int .u64 (a : Int), .int .i64 (n : Int)] w fun e w' => e = .returned (.int .u64 (rdF B a n)) ∧ Kept w w' := by
  have hc := hm.cell
  have hat : ∀ j, j < n → w.cell? ⟨q, a + j, none⟩ = some (.int .u8 (B (a + j))) := fun j hj => hm.at (by omega)
  have hbd := hm.byte
  clear hm
  go_enter Tryd.func57, Tryd.ntmps57
  go_wp2
  go_loopw [7, 8] (fun v i wr => ∃ k : Nat, k ≤ n ∧ v = .int .u64 (rdF B (a + k) (n - k)) ∧ i = .int .i64 ((k : Int) - 1) ∧ wr = w) (fun _ i _ => (intOf i + 1).toNat)
  case atStart => exact ⟨n, Nat.le_refl _, by rw [Nat.sub_self]; rfl, rfl, rfl⟩
  case round =>
    obtain ⟨k, hk, rfl, rfl, rfl⟩ := hrel
    cases k with
    | zero =>
      have hneg : ((0 : Nat) : Int) - 1 = -1 := by omega
      rw [hneg]
      clear hat hbd
      go_wp2
      go_ret
      exact ⟨rfl, Only.refl _ _⟩
    | succ j =>
      have hj : ((j + 1 : Nat) : Int) - 1 = (j : Int) := by omega
      rw [hj]
      have hx := hat j (by omega)
      have hst := rd_step (B := B) (a := a) (k := j) (n := n) (by omega) h hn hbd
      have b0 := (hbd (a + j) (by omega)).1
      have b1 := (hbd (a + j) (by omega)).2
      have o : ((a : Int) + (j : Int)).toNat = a + j := by omega
      clear hat hbd hj
      go_wp2
      exact ⟨⟨j, by omega, rfl, rfl, trivial⟩, by simp [intOf]⟩
end Go.Proofs.YtpplclenokfpeaaDoor
