/-
  What the Write of the document's memory does: walked whole, for every argument.
-/
import Derived.Test.YtpplclenokfpeaaDoorRefMem
namespace Go.Proofs.YtpplclenokfpeaaDoor
open Go.RowKit
theorem wr_zero (B : Nat → Int) (a : Nat) (v : Int) (i : Nat) : wrF B a 0 v i = B i := by
  unfold wrF; rw [if_neg (by omega)]
theorem wr_step (B : Nat → Int) (a k : Nat) (v : Int) (i : Nat) : (if i = a + k then v / 256 ^ k % 256 else wrF B a k v i) = wrF B a (k + 1) v i := by
  unfold wrF
  by_cases h : i = a + k
  · rw [if_pos h, if_pos (by omega), h, Nat.add_sub_cancel_left]
  · rw [if_neg h]
    by_cases h2 : a ≤ i ∧ i < a + k
    · rw [if_pos h2, if_pos (by omega)]
    · rw [if_neg h2, if_neg (by omega)]
theorem pow256 (k : Nat) : (2 : Int) ^ (8 * k) = 256 ^ k := by rw [Int.pow_mul]; rfl
set_option maxHeartbeats 1000000 in
theorem rwrite_any (a : Nat) (n : Nat) (v : Int) (_hv : U v) (hn : n ≤ 8) (h : a + n ≤ 32768) (w : World) (p q : Nat) (B : Nat → Int) (hm : RefAt w p q B) :
    Calls Tryd.prog 25 #[.pointer (some ⟨p, 0, none⟩), .int .u64 (a : Int), .int .i64 (n : Int), .int .u64 v] w fun e w' => e = .returned (.tuple #[]) ∧ RefAt w' p q (wrF B a n v) ∧ Only (fun i => i = q) w w' := by
  go_enter Tryd.func25, Tryd.ntmps25
  go_wp2
  go_loopw [8] (fun i wr => ∃ k : Nat, k ≤ n ∧ i = .int .i64 (k : Int) ∧ RefAt wr p q (wrF B a k v) ∧ Only (fun i => i = q) w wr) (fun i _ => n - (intOf i).toNat)
  case atStart => exact ⟨0, Nat.zero_le _, rfl, hm.congr fun i _ => (wr_zero B a v i).symm, Only.refl _ _⟩
  case round =>
    obtain ⟨k, hk, rfl, hr, ho⟩ := hrel
    have hc := hr.cell
    by_cases hlt : k < n
    · have hx := hr.at (i := a + k) (by omega)
      have hf := hr.row.frozen (a + k)
      have o : ((a : Int) + (k : Int)).toNat = a + k := by omega
      have hset := hr.set (a + k) (v / 256 ^ k % 256) ⟨Int.emod_nonneg _ (by decide), Int.emod_lt_of_pos _ (by decide)⟩
      have hset2 := hset.congr fun i _ => wr_step B a k v i
      have ho2 := ho.setCell (x := ⟨q, a + k, none⟩) rfl (.int .u8 (v / 256 ^ k % 256))
      have hp : (2 : Int) ^ (8 * k) = 256 ^ k := pow256 k
      have ht : (8 * (k : Int)).toNat = 8 * k := by omega
      clear hr ho hset
      go_wp2
      exact ⟨⟨k + 1, by omega, by go_num, hset2, ho2⟩, by simp [intOf]; omega⟩
    · obtain rfl : k = n := by omega
      go_wp2
      go_end0
      exact ⟨rfl, hr, ho⟩
end Go.Proofs.YtpplclenokfpeaaDoor
