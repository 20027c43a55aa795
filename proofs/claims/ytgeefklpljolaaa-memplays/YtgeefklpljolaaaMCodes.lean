/-
  What statement MemCodes asks: of each place and size whether it can be read, and why not; walked for every argument.
-/
import Derived.Test.YtgeefklpljolaaaMKnown
import Derived.Lib.EndianBits
namespace Go.Proofs.Ytgeefklpljolaaa
open Go.RowKit
theorem rd_none : ∀ (n a : Nat), rdF (fun _ => 0) a n = 0
  | 0, _ => rfl
  | n + 1, a => by rw [rdF, rd_none n (a + 1)]; rfl
theorem wr_none (a n i : Nat) : wrF (fun _ => 0) a n 0 i = 0 := by
  unfold wrF; split <;> simp
theorem rdZ_none (a n : Int) : rdZ (fun _ => 0) a n = 0 := by
  unfold rdZ
  split
  · exact rd_none _ _
  · rfl
theorem same_none (a n : Int) : sameM (wrZ (fun _ => 0) a n 0) (fun _ => 0) = true := same_yes fun i _ => by
  unfold wrZ
  split
  · exact wr_none _ _ _
  · rfl
theorem rnew_from {W w : World} {p q : Nat} {B : Nat → Int} (h : St W w p q B) :
    Calls Try.prog 9 #[] w fun e w' => ∃ p' q', e = .returned (.pointer (some ⟨p', 0, none⟩)) ∧ RefAt w' p' q' (fun _ => 0) ∧ St W w' p q B :=
  (rnew_any w).mono fun _ _ ⟨p', q', he, hm, _, _, hk⟩ => ⟨p', q', he, hm, h.kept hk⟩
theorem rcode_from {W w : World} {p q p' q' : Nat} {B C : Nat → Int} (h : St W w p q B) (hm : RefAt w p' q' C) (a n : Int) (ha : U a) :
    Calls Try.prog 11 #[.pointer (some ⟨p', 0, none⟩), .int .u64 a, .int .i64 n] w fun e w' => e = .returned (.int .i64 (codeI a n)) ∧ St W w' p q B :=
  (rcode_any a n ha w p' q' C hm).mono fun _ _ hx => ⟨hx.1, h.kept hx.2⟩
theorem and_low {a : Int} (ha : U a) : bits .and .u64 a 0 = a % 1 ∧ bits .and .u64 a 1 = a % 2 ∧ bits .and .u64 a 3 = a % 4 ∧ bits .and .u64 a 7 = a % 8 :=
  ⟨bits_mask .u64 64 (by decide) wraps_u64 0 (by decide) a ha.1 ha.2, bits_mask .u64 64 (by decide) wraps_u64 1 (by decide) a ha.1 ha.2, bits_mask .u64 64 (by decide) wraps_u64 2 (by decide) a ha.1 ha.2, bits_mask .u64 64 (by decide) wraps_u64 3 (by decide) a ha.1 ha.2⟩
set_option maxRecDepth 100000 in
set_option maxHeartbeats 4000000 in
theorem mcodes_in (a n : Int) (ha : U a) (hn : n = 1 ∨ n = 2 ∨ n = 4 ∨ n = 8) (w : World) :
    Calls Try.prog 6 #[.int .u64 a, .int .i64 n] w fun e w' => e = .returned (.bool true) ∧ Kept w w' := by
  obtain ⟨b1, b2, b4, b8⟩ := and_low ha
  have r0 := rdZ_none a n
  have s0 := same_none a n
  by_cases hz : a % n = 0
  · by_cases hr : 32768 ≤ a
    · have hc := code_60 hn hz hr
      rcases hn with rfl | rfl | rfl | rfl
      all_goals
        go_enter Try.func6, Try.ntmps6
        go_wp2_with fail
        refine (known6_any _).mono ?_
        rintro e w1 ⟨rfl, k1⟩
        go_wp2_with fail
        refine (new_from k1).mono ?_
        rintro e w2 ⟨p, q, rfl, s1⟩
        go_wp2_with (first | (go_at_call 14; refine (read_from (by assumption) _ _ ha).mono ?_; rintro e w' ⟨rfl, hs⟩) | (go_at_call 12; refine (write_from (by assumption) _ _ _ ha).mono ?_; rintro e w' ⟨rfl, hs⟩) | (go_at_call 20; refine (same_from (by assumption)).mono ?_; rintro e w' ⟨rfl, hs⟩) | (go_at_call 9; refine (rnew_from (by assumption)).mono ?_; rintro e w' ⟨p', q', rfl, hr', hs⟩) | (go_at_call 11; refine (rcode_from (by assumption) (by assumption) _ _ ha).mono ?_; rintro e w' ⟨rfl, hs⟩))
        go_ret
        exact ⟨rfl, St.k (by assumption)⟩
    · have hc := code_0 hn hz (by omega)
      have hr' : a < 32768 := by omega
      rcases hn with rfl | rfl | rfl | rfl
      all_goals
        go_enter Try.func6, Try.ntmps6
        go_wp2_with fail
        refine (known6_any _).mono ?_
        rintro e w1 ⟨rfl, k1⟩
        go_wp2_with fail
        refine (new_from k1).mono ?_
        rintro e w2 ⟨p, q, rfl, s1⟩
        go_wp2_with (first | (go_at_call 14; refine (read_from (by assumption) _ _ ha).mono ?_; rintro e w' ⟨rfl, hs⟩) | (go_at_call 12; refine (write_from (by assumption) _ _ _ ha).mono ?_; rintro e w' ⟨rfl, hs⟩) | (go_at_call 20; refine (same_from (by assumption)).mono ?_; rintro e w' ⟨rfl, hs⟩) | (go_at_call 9; refine (rnew_from (by assumption)).mono ?_; rintro e w' ⟨p', q', rfl, hr', hs⟩) | (go_at_call 11; refine (rcode_from (by assumption) (by assumption) _ _ ha).mono ?_; rintro e w' ⟨rfl, hs⟩))
        go_ret
        exact ⟨rfl, St.k (by assumption)⟩
  · have hc := code_61 (a := a) (n := n) (.inr hz)
    rcases hn with rfl | rfl | rfl | rfl
    · exact absurd (Int.emod_one a) hz
    all_goals
      go_enter Try.func6, Try.ntmps6
      go_wp2_with fail
      refine (known6_any _).mono ?_
      rintro e w1 ⟨rfl, k1⟩
      go_wp2_with fail
      refine (new_from k1).mono ?_
      rintro e w2 ⟨p, q, rfl, s1⟩
      go_wp2_with (first | (go_at_call 14; refine (read_from (by assumption) _ _ ha).mono ?_; rintro e w' ⟨rfl, hs⟩) | (go_at_call 12; refine (write_from (by assumption) _ _ _ ha).mono ?_; rintro e w' ⟨rfl, hs⟩) | (go_at_call 20; refine (same_from (by assumption)).mono ?_; rintro e w' ⟨rfl, hs⟩) | (go_at_call 9; refine (rnew_from (by assumption)).mono ?_; rintro e w' ⟨p', q', rfl, hr', hs⟩) | (go_at_call 11; refine (rcode_from (by assumption) (by assumption) _ _ ha).mono ?_; rintro e w' ⟨rfl, hs⟩))
      go_ret
      exact ⟨rfl, St.k (by assumption)⟩
set_option maxRecDepth 100000 in
set_option maxHeartbeats 4000000 in
theorem mcodes_out (a n : Int) (ha : U a) (hn : ¬ (n = 1 ∨ n = 2 ∨ n = 4 ∨ n = 8)) (w : World) :
    Calls Try.prog 6 #[.int .u64 a, .int .i64 n] w fun e w' => e = .returned (.bool true) ∧ Kept w w' := by
  have r0 := rdZ_none a n
  have s0 := same_none a n
  have hc := code_61 (a := a) (n := n) (.inl hn)
  have n1 : (n == 1) = false := beq_eq_false_iff_ne.2 (by omega)
  have n2 : (n == 2) = false := beq_eq_false_iff_ne.2 (by omega)
  have n4 : (n == 4) = false := beq_eq_false_iff_ne.2 (by omega)
  have n8 : (n == 8) = false := beq_eq_false_iff_ne.2 (by omega)
  clear hn
  go_enter Try.func6, Try.ntmps6
  go_wp2_with fail
  refine (known6_any _).mono ?_
  rintro e w1 ⟨rfl, k1⟩
  go_wp2_with fail
  refine (new_from k1).mono ?_
  rintro e w2 ⟨p, q, rfl, s1⟩
  go_wp2_with (first | (go_at_call 14; refine (read_from (by assumption) _ _ ha).mono ?_; rintro e w' ⟨rfl, hs⟩) | (go_at_call 12; refine (write_from (by assumption) _ _ _ ha).mono ?_; rintro e w' ⟨rfl, hs⟩) | (go_at_call 20; refine (same_from (by assumption)).mono ?_; rintro e w' ⟨rfl, hs⟩) | (go_at_call 9; refine (rnew_from (by assumption)).mono ?_; rintro e w' ⟨p', q', rfl, hr', hs⟩) | (go_at_call 11; refine (rcode_from (by assumption) (by assumption) _ _ ha).mono ?_; rintro e w' ⟨rfl, hs⟩))
  go_ret
  exact ⟨rfl, St.k (by assumption)⟩
theorem mcodes_any (a n : Int) (ha : U a) (w : World) :
    Calls Try.prog 6 #[.int .u64 a, .int .i64 n] w fun e w' => e = .returned (.bool true) ∧ Kept w w' := by
  by_cases hn : n = 1 ∨ n = 2 ∨ n = 4 ∨ n = 8
  · exact mcodes_in a n ha hn w
  · exact mcodes_out a n ha hn w
end Go.Proofs.Ytgeefklpljolaaa
