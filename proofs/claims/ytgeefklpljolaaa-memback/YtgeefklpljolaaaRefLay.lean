/-
  What the Lay of the document's memory does: walked whole, for every argument.
-/
import Derived.Test.YtgeefklpljolaaaRefMem
namespace Go.Proofs.Ytgeefklpljolaaa
open Go.RowKit
theorem lay_zero (B : Nat → Int) (a : Nat) (s : List UInt8) (i : Nat) : layF B a (s.take 0) i = B i := by
  unfold layF; rw [if_neg (by simp)]
theorem lay_step (B : Nat → Int) (a k : Nat) (s : List UInt8) (hk : k < s.length) (i : Nat) : (if i = a + k then ((s[k]).toNat : Int) else layF B a (s.take k) i) = layF B a (s.take (k + 1)) i := by
  unfold layF
  have l1 : (s.take k).length = k := by simp; omega
  have l2 : (s.take (k + 1)).length = k + 1 := by simp; omega
  rw [l1, l2]
  by_cases h : i = a + k
  · rw [if_pos h, if_pos (by omega), h, Nat.add_sub_cancel_left]
    simp [List.getD, hk]
  · rw [if_neg h]
    by_cases h2 : a ≤ i ∧ i < a + k
    · rw [if_pos h2, if_pos (by omega)]
      simp [List.getD, show i - a < k by omega, show i - a < k + 1 by omega]
    · rw [if_neg h2, if_neg (by omega)]
/-- Whether a text fits from a place on. -/
def fitsB (a : Int) (n : Nat) : Bool := decide (a ≤ 32768 ∧ (n : Int) ≤ 32768 - a)
set_option maxHeartbeats 1000000 in
theorem rlay_no (a : Int) (ha : U a) (s : ByteArray) (hs : s.size < 9223372036854775808) (h : ¬ (a ≤ 32768 ∧ (s.size : Int) ≤ 32768 - a)) (w : World) (p q : Nat) (B : Nat → Int) (hm : RefAt w p q B) :
    Calls Try.prog 17 #[.pointer (some ⟨p, 0, none⟩), .int .u64 a, .string s] w fun e w' => e = .returned (.bool false) ∧ Kept w w' := by
  have hc := hm.cell
  have h0 := ha.1
  clear hm
  by_cases hlt : 32768 < a
  · go_enter Try.func17, Try.ntmps17
    go_wp2
    go_ret
    exact ⟨rfl, Only.refl _ _⟩
  · have h1 : a ≤ 32768 := by omega
    have h2 : 32768 - a < (s.size : Int) := by omega
    clear h hlt
    go_enter Try.func17, Try.ntmps17
    go_wp2
    go_ret
    exact ⟨rfl, Only.refl _ _⟩
set_option maxHeartbeats 1000000 in
theorem rlay_yes (a : Nat) (s : ByteArray) (h : a + s.size ≤ 32768) (w : World) (p q : Nat) (B : Nat → Int) (hm : RefAt w p q B) :
    Calls Try.prog 17 #[.pointer (some ⟨p, 0, none⟩), .int .u64 (a : Int), .string s] w fun e w' => e = .returned (.bool true) ∧ RefAt w' p q (layF B a s.data.toList) ∧ Only (fun i => i = q) w w' := by
  have hc := hm.cell
  have h1 : (s.size : Int) ≤ 32768 - (a : Int) := by omega
  have h2 : (a : Int) ≤ 32768 := by omega
  go_enter Try.func17, Try.ntmps17
  go_wp2
  go_loopw [7] (fun i wr => ∃ k : Nat, k ≤ s.size ∧ i = .int .i64 (k : Int) ∧ RefAt wr p q (layF B a (s.data.toList.take k)) ∧ Only (fun i => i = q) w wr) (fun i _ => s.size - (intOf i).toNat)
  case atStart => exact ⟨0, Nat.zero_le _, rfl, hm.congr fun i _ => (lay_zero B a _ i).symm, Only.refl _ _⟩
  case round =>
    obtain ⟨k, hk, rfl, hr, ho⟩ := hrel
    have hc := hr.cell
    by_cases hlt : k < s.size
    · have hx := hr.at (i := a + k) (by omega)
      have hf := hr.row.frozen (a + k)
      have o : ((a : Int) + (k : Int)).toNat = a + k := by omega
      have e : (s.data.toList[k]'(by simpa using hlt)) = s[k] := by simp only [Array.getElem_toList]; rfl
      have hset := hr.set (a + k) ((s[k].toNat : Nat) : Int) ⟨by omega, by have := s[k].toNat_lt; omega⟩
      have hset2 := hset.congr (C := layF B a (s.data.toList.take (k + 1))) fun i _ => by rw [← lay_step B a k s.data.toList (by simpa using hlt) i, e]
      have ho2 := ho.setCell (x := ⟨q, a + k, none⟩) rfl (.int .u8 ((s[k].toNat : Nat) : Int))
      clear e
      clear hr ho hset
      go_wp2
      go_region
      go_wp2
      exact ⟨⟨k + 1, by omega, by go_num, ⟨hset2.obj, hset2.row.drew, hset2.byte⟩, ho2.drew⟩, by simp [intOf]; omega⟩
    · obtain rfl : k = s.size := by omega
      go_wp2
      go_ret
      refine ⟨rfl, ?_, ho⟩
      rwa [List.take_of_length_le (by simp)] at hr
end Go.Proofs.Ytgeefklpljolaaa
