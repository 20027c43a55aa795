/-
  What statement MemLays asks: what was laid is read byte by byte, what doesn't fit changes nothing; walked for every argument.
-/
import Derived.Test.YtgeefklpljolaaaMCodes
namespace Go.Proofs.Ytgeefklpljolaaa
open Go.RowKit
theorem lays_code {a : Nat} (h : a < 32768) : codeI (a : Int) 1 = 0 := code_0 (.inl rfl) (Int.emod_one _) (by omega)
theorem lays_read {B : Nat → Int} {a k : Nat} {s : ByteArray} (hk : k < s.size) (h : a + s.size ≤ 32768) : rdZ (layF B a s.data.toList) ((a : Int) + (k : Int)) 1 = ((s[k]).toNat : Int) := by
  have hc := lays_code (a := a + k) (by omega)
  unfold rdZ
  rw [show (a : Int) + (k : Int) = ((a + k : Nat) : Int) by omega, if_pos hc]
  simp only [Int.toNat_natCast, Int.toNat_one, rdF]
  unfold layF
  have hl : k < s.data.toList.length := by simpa using hk
  rw [if_pos (by constructor <;> omega), Nat.add_sub_cancel_left, List.getD_eq_getElem?_getD, List.getElem?_eq_getElem hl, Option.getD_some, Array.getElem_toList]
  simp only [Int.mul_zero, Int.add_zero]
  rfl
set_option maxRecDepth 100000 in
set_option maxHeartbeats 4000000 in
theorem mlays_long (a : Int) (s : ByteArray) (h : 300 < (s.size : Int)) (w : World) :
    Calls Try.prog 5 #[.int .u16 a, .string s] w fun e w' => e = .returned (.bool true) ∧ Kept w w' := by
  go_enter Try.func5, Try.ntmps5
  go_wp2_with fail
  refine (known6_any _).mono ?_
  rintro e w1 ⟨rfl, k1⟩
  go_wp2
  go_ret
  exact ⟨rfl, k1⟩
set_option maxRecDepth 100000 in
set_option maxHeartbeats 4000000 in
theorem mlays_no (a : Nat) (ha : a < 65536) (s : ByteArray) (h : (s.size : Int) ≤ 300) (hf : ¬ ((a : Int) ≤ 32768 ∧ (s.size : Int) ≤ 32768 - (a : Int))) (w : World) :
    Calls Try.prog 5 #[.int .u16 (a : Int), .string s] w fun e w' => e = .returned (.bool true) ∧ Kept w w' := by
  have hU : U (a : Int) := by unfold U; omega
  have hfb : ¬ fitsB (a : Int) s.size = true := by unfold fitsB; simpa using hf
  have hc : layC (a : Int) s.size = 60 := by unfold layC; rw [if_neg hfb]
  have hz : layZ (fun _ => 0) (a : Int) s = fun _ => 0 := by unfold layZ; rw [if_neg hfb]
  have hs := x14
  by_cases h1 : (a : Int) ≤ 32768
  · have h2 : ¬ ((s.size : Int) ≤ 32768 - (a : Int)) := by omega
    have h3 : decide ((s.size : Int) ≤ 32768 - (a : Int)) = false := decide_eq_false h2
    clear hf hfb
    go_enter Try.func5, Try.ntmps5
    go_wp2_with fail
    refine (known6_any _).mono ?_
    rintro e w1 ⟨rfl, k1⟩
    go_wp2_with fail
    refine (new_from k1).mono ?_
    rintro e w2 ⟨p, q, rfl, s1⟩
    go_wp2_with (first | (go_at_call 16; refine (lay_from (by assumption) _ hU _ (by omega)).mono ?_; rintro e w' ⟨rfl, hs⟩; rw [hz] at hs) | (go_at_call 20; refine (same_from (by assumption)).mono ?_; rintro e w' ⟨rfl, hs⟩))
    go_ret
    exact ⟨rfl, St.k (by assumption)⟩
  · have h2 : 32768 < (a : Int) := by omega
    clear hf hfb
    go_enter Try.func5, Try.ntmps5
    go_wp2_with fail
    refine (known6_any _).mono ?_
    rintro e w1 ⟨rfl, k1⟩
    go_wp2_with fail
    refine (new_from k1).mono ?_
    rintro e w2 ⟨p, q, rfl, s1⟩
    go_wp2_with (first | (go_at_call 16; refine (lay_from (by assumption) _ hU _ (by omega)).mono ?_; rintro e w' ⟨rfl, hs⟩; rw [hz] at hs) | (go_at_call 20; refine (same_from (by assumption)).mono ?_; rintro e w' ⟨rfl, hs⟩))
    go_ret
    exact ⟨rfl, St.k (by assumption)⟩
set_option maxRecDepth 100000 in
set_option maxHeartbeats 4000000 in
theorem mlays_yes (a : Nat) (s : ByteArray) (h : (s.size : Int) ≤ 300) (hf : a + s.size ≤ 32768) (w : World) :
    Calls Try.prog 5 #[.int .u16 (a : Int), .string s] w fun e w' => e = .returned (.bool true) ∧ Kept w w' := by
  have hU : U (a : Int) := by unfold U; omega
  have h1 : (a : Int) ≤ 32768 := by omega
  have h2 : (s.size : Int) ≤ 32768 - (a : Int) := by omega
  have hfb : fitsB (a : Int) s.size = true := decide_eq_true ⟨h1, h2⟩
  have hc : layC (a : Int) s.size = 0 := by unfold layC; rw [if_pos hfb]
  have hz : layZ (fun _ => 0) (a : Int) s = layF (fun _ => 0) a s.data.toList := by unfold layZ; rw [if_pos hfb, Int.toNat_natCast]
  clear hfb
  go_enter Try.func5, Try.ntmps5
  go_wp2_with fail
  refine (known6_any _).mono ?_
  rintro e w1 ⟨rfl, k1⟩
  go_wp2_with fail
  refine (new_from k1).mono ?_
  rintro e w2 ⟨p, q, rfl, s1⟩
  go_wp2_with fail
  refine (lay_from (by assumption) _ hU _ (by omega)).mono ?_
  rintro e w3 ⟨rfl, s3⟩
  rw [hz] at s3
  go_wp2
  go_loopw [9] (fun i wr => ∃ k : Nat, k ≤ s.size ∧ i = .int .i64 (k : Int) ∧ St w wr p q (layF (fun _ => 0) a s.data.toList)) (fun i _ => s.size - (intOf i).toNat)
  case atStart => exact ⟨0, Nat.zero_le _, rfl, s3⟩
  case round =>
    obtain ⟨k, hk, rfl, hr⟩ := hrel
    by_cases hlt : k < s.size
    · have hc2 : codeI ((a : Int) + (k : Int)) 1 = 0 := by rw [show (a : Int) + (k : Int) = ((a + k : Nat) : Int) by omega]; exact lays_code (by omega)
      have hv := lays_read (B := fun _ => 0) (a := a) hlt hf
      have hU2 : U ((a : Int) + (k : Int)) := by unfold U; omega
      have hw : IntKind.u64.wrap ((s[k].toNat : Nat) : Int) = ((s[k].toNat : Nat) : Int) := wrap_id (by have := s[k].toNat_lt; unfold U; omega)
      clear s3 s1 k1
      go_wp2_with (go_at_call 14; refine (read_from (by assumption) _ _ hU2).mono ?_; rintro e w' ⟨rfl, hs⟩)
      exact ⟨⟨k + 1, by omega, by go_num, by assumption⟩, by simp [intOf]; omega⟩
    · obtain rfl : k = s.size := by omega
      go_wp2
      go_ret
      exact ⟨rfl, hr.k⟩
theorem mlays_any (a : Int) (s : ByteArray) (h0 : 0 ≤ a) (h1 : a ≤ 65535) (w : World) :
    Calls Try.prog 5 #[.int .u16 a, .string s] w fun e w' => e = .returned (.bool true) ∧ Kept w w' := by
  by_cases hl : 300 < (s.size : Int)
  · exact mlays_long a s hl w
  · obtain ⟨A, rfl⟩ := Int.eq_ofNat_of_zero_le h0
    by_cases hf : (A : Int) ≤ 32768 ∧ (s.size : Int) ≤ 32768 - (A : Int)
    · exact mlays_yes A s (by omega) (by omega) w
    · exact mlays_no A (by omega) s (by omega) hf w
end Go.Proofs.Ytgeefklpljolaaa
