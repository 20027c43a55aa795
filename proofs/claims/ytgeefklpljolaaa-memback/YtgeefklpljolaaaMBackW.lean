/-
  What statement MemBack asks: a word is read as it was written, in parts too; all else stays; walked for every argument.
-/
import Derived.Test.YtgeefklpljolaaaMBack
namespace Go.Proofs.Ytgeefklpljolaaa
open Go.RowKit
/-- The word with all its bits turned. -/
def notV (v : Int) : Int := bits .xor .u64 IntKind.u64.max v
theorem rzext_from {W w : World} {p q p' q' : Nat} {B C : Nat → Int} (h : St2 W w p q p' q' B C) {v : Int} (hv : U v) (n : Int) :
    Calls Try.prog 22 #[.int .u64 v, .int .i64 n] w fun e w' => e = .returned (.int .u64 (zextI v n)) ∧ St2 W w' p q p' q' B C :=
  (rzext_any hv n w).mono fun _ _ hx => ⟨hx.1, hx.2 ▸ h⟩
set_option maxRecDepth 100000 in
set_option maxHeartbeats 4000000 in
theorem mback_1 (t v n : Int) (hv : U v) (t0 : 0 ≤ t) (t1 : t ≤ 65535) (n0 : 0 ≤ n) (n1 : n ≤ 255) (A : Nat) (hA : A % 8 = 0) (hA2 : A + 16 ≤ 32768) (he : bits .andNot .u64 (t % 32752) 7 = (A : Int)) (hn : n % 4 = 0) (w : World) :
    Calls Try.prog 4 #[.int .u16 t, .int .u64 v, .int .u8 n] w fun e w' => e = .returned (.bool true) ∧ Kept w w' := by
  have hU : U (A : Int) := by unfold U; omega
  have hU8 : U ((A : Int) + 8) := by unfold U; omega
  have c8 : codeI (A : Int) 8 = 0 := code_in (i := 0) (k := 8) hA hA2 (by omega) (by omega) (by omega)
  have ck : codeI (A : Int) 1 = 0 := code_in (i := 0) (k := 1) hA hA2 (by omega) (by omega) (by omega)
  have c88 : codeI ((A : Int) + 8) 8 = 0 := code_in (i := 8) (k := 8) hA hA2 (by omega) (by omega) (by omega)
  have hnv : bits .xor .u64 IntKind.u64.max v = notV v := rfl
  have hB : wrZ (wrZ (fun _ => 0) (A : Int) 8 v) ((A : Int) + 8) 8 (notV v) = mB A v (notV v) := by
    rw [show wrZ (fun _ => 0) (A : Int) 8 v = wrF (fun _ => 0) A 8 v from wrZ_yes (N := 8) c8]
    exact wrZ_yes (A := A + 8) (N := 8) c88
  have hC : wrZ (mB A v (notV v)) (A : Int) 1 0 = wrF (mB A v (notV v)) A 1 0 := wrZ_yes (N := 1) ck
  have r1 : rdZ (mB A v (notV v)) ((A : Int) + 8) 8 = notV v := back_next hA hA2 (U_xor _ _)
  have r2 : rdZ (mB A v (notV v)) (A : Int) 8 = v := back_whole hA hA2 hv
  have r3 : (sameM (wrF (mB A v (notV v)) A 1 0) (mB A v (notV v)) == (zextI v 8 == 0)) = true := by
    have e := back_same (u := notV v) (k := 1) hA2 (by omega) (by omega) hv
    rw [e]
    exact beq_self_eq_true _
  have f1 : (v == v) = true := beq_self_eq_true _
  have f2 : (notV v == notV v) = true := beq_self_eq_true _
  go_enter Try.func4, Try.ntmps4
  go_wp2_with fail
  refine (known6_any _).mono ?_
  rintro e w1 ⟨rfl, k1⟩
  go_wp2_with fail
  refine (new_from k1).mono ?_
  rintro e w2 ⟨p, q, rfl, s1⟩
  go_wp2_with fail
  refine (write_from s1 _ _ _ hU).mono ?_
  rintro e w3 ⟨rfl, s3⟩
  go_wp2_with fail
  refine (write_from s3 _ _ _ hU8).mono ?_
  rintro e w4 ⟨rfl, s4⟩
  rw [hB] at s4
  clear s1 s3 k1
  go_wp2
  go_loopw [10] (fun i wr => ∃ j : Nat, j * 1 ≤ 8 ∧ i = .int .i64 ((j * 1 : Nat) : Int) ∧ St w wr p q (mB A v (notV v))) (fun i _ => 8 - (intOf i).toNat)
  case atStart => exact ⟨0, by omega, rfl, s4⟩
  case round =>
    obtain ⟨j, hj, rfl, hr⟩ := hrel
    clear s4
    by_cases hlt : j * 1 < 8
    · generalize hi : j * 1 = i at *
      have hik : i % 1 = 0 := by omega
      have hi8 : i + 1 ≤ 8 := by omega
      have hil : (i : Int) < 8 := by omega
      have c : codeI ((A : Int) + (i : Int)) 1 = 0 := code_in (i := i) (k := 1) hA hA2 (by omega) hik (by omega)
      have r : rdZ (mB A v (notV v)) ((A : Int) + (i : Int)) 1 = bitsI v (8 * (i : Int)) 8 := by
        have e := back_part (u := notV v) (i := i) (k := 1) hA hA2 (by omega) hik hi8 hv
        rw [show ((8 * i : Nat) : Int) = 8 * (i : Int) by omega] at e
        exact e
      have hUi : U ((A : Int) + (i : Int)) := by unfold U; omega
      have f3 : (bitsI v (8 * (i : Int)) 8 == bitsI v (8 * (i : Int)) 8) = true := beq_self_eq_true _
      go_wp2_with (first | (go_at_call 14; refine (read_from (by assumption) _ _ hUi).mono ?_; rintro e w' ⟨rfl, hs⟩) | (go_at_call 21; refine (rbits_any _ _ _ _).mono ?_; rintro e w' ⟨rfl, rfl⟩))
      refine ⟨⟨j + 1, by omega, ?_, by assumption⟩, ?_⟩
      · rw [show (((j + 1) * 1 : Nat) : Int) = (i : Int) + 1 by omega]
      · simp [intOf]; omega
    · have h8 : j * 1 = 8 := by omega
      rw [h8]
      go_wp2_with fail
      refine (read_from hr _ _ hU8).mono ?_
      rintro e w5 ⟨rfl, s5⟩
      go_wp2_with fail
      refine (copy_from s5).mono ?_
      rintro e w6 ⟨p', q', rfl, s6⟩
      go_wp2_with fail
      refine (write2_from s6 _ _ _ hU).mono ?_
      rintro e w7 ⟨rfl, s7⟩
      rw [hC] at s7
      go_wp2_with fail
      refine (read2_from s7 _ _ hU).mono ?_
      rintro e w8 ⟨rfl, s8⟩
      clear s5 s6 s7 hr
      go_wp2_with (first | (go_at_call 20; refine (same2_from (by assumption)).mono ?_; rintro e w' ⟨rfl, hs⟩) | (go_at_call 22; refine (rzext_from (by assumption) hv _).mono ?_; rintro e w' ⟨rfl, hs⟩))
      go_ret
      exact ⟨rfl, St2.k (by assumption)⟩
set_option maxRecDepth 100000 in
set_option maxHeartbeats 4000000 in
theorem mback_2 (t v n : Int) (hv : U v) (t0 : 0 ≤ t) (t1 : t ≤ 65535) (n0 : 0 ≤ n) (n1 : n ≤ 255) (A : Nat) (hA : A % 8 = 0) (hA2 : A + 16 ≤ 32768) (he : bits .andNot .u64 (t % 32752) 7 = (A : Int)) (hn : n % 4 = 1) (w : World) :
    Calls Try.prog 4 #[.int .u16 t, .int .u64 v, .int .u8 n] w fun e w' => e = .returned (.bool true) ∧ Kept w w' := by
  have hU : U (A : Int) := by unfold U; omega
  have hU8 : U ((A : Int) + 8) := by unfold U; omega
  have c8 : codeI (A : Int) 8 = 0 := code_in (i := 0) (k := 8) hA hA2 (by omega) (by omega) (by omega)
  have ck : codeI (A : Int) 2 = 0 := code_in (i := 0) (k := 2) hA hA2 (by omega) (by omega) (by omega)
  have c88 : codeI ((A : Int) + 8) 8 = 0 := code_in (i := 8) (k := 8) hA hA2 (by omega) (by omega) (by omega)
  have hnv : bits .xor .u64 IntKind.u64.max v = notV v := rfl
  have hB : wrZ (wrZ (fun _ => 0) (A : Int) 8 v) ((A : Int) + 8) 8 (notV v) = mB A v (notV v) := by
    rw [show wrZ (fun _ => 0) (A : Int) 8 v = wrF (fun _ => 0) A 8 v from wrZ_yes (N := 8) c8]
    exact wrZ_yes (A := A + 8) (N := 8) c88
  have hC : wrZ (mB A v (notV v)) (A : Int) 2 0 = wrF (mB A v (notV v)) A 2 0 := wrZ_yes (N := 2) ck
  have r1 : rdZ (mB A v (notV v)) ((A : Int) + 8) 8 = notV v := back_next hA hA2 (U_xor _ _)
  have r2 : rdZ (mB A v (notV v)) (A : Int) 8 = v := back_whole hA hA2 hv
  have r3 : (sameM (wrF (mB A v (notV v)) A 2 0) (mB A v (notV v)) == (zextI v 16 == 0)) = true := by
    have e := back_same (u := notV v) (k := 2) hA2 (by omega) (by omega) hv
    rw [e]
    exact beq_self_eq_true _
  have f1 : (v == v) = true := beq_self_eq_true _
  have f2 : (notV v == notV v) = true := beq_self_eq_true _
  go_enter Try.func4, Try.ntmps4
  go_wp2_with fail
  refine (known6_any _).mono ?_
  rintro e w1 ⟨rfl, k1⟩
  go_wp2_with fail
  refine (new_from k1).mono ?_
  rintro e w2 ⟨p, q, rfl, s1⟩
  go_wp2_with fail
  refine (write_from s1 _ _ _ hU).mono ?_
  rintro e w3 ⟨rfl, s3⟩
  go_wp2_with fail
  refine (write_from s3 _ _ _ hU8).mono ?_
  rintro e w4 ⟨rfl, s4⟩
  rw [hB] at s4
  clear s1 s3 k1
  go_wp2
  go_loopw [10] (fun i wr => ∃ j : Nat, j * 2 ≤ 8 ∧ i = .int .i64 ((j * 2 : Nat) : Int) ∧ St w wr p q (mB A v (notV v))) (fun i _ => 8 - (intOf i).toNat)
  case atStart => exact ⟨0, by omega, rfl, s4⟩
  case round =>
    obtain ⟨j, hj, rfl, hr⟩ := hrel
    clear s4
    by_cases hlt : j * 2 < 8
    · generalize hi : j * 2 = i at *
      have hik : i % 2 = 0 := by omega
      have hi8 : i + 2 ≤ 8 := by omega
      have hil : (i : Int) < 8 := by omega
      have c : codeI ((A : Int) + (i : Int)) 2 = 0 := code_in (i := i) (k := 2) hA hA2 (by omega) hik (by omega)
      have r : rdZ (mB A v (notV v)) ((A : Int) + (i : Int)) 2 = bitsI v (8 * (i : Int)) 16 := by
        have e := back_part (u := notV v) (i := i) (k := 2) hA hA2 (by omega) hik hi8 hv
        rw [show ((8 * i : Nat) : Int) = 8 * (i : Int) by omega] at e
        exact e
      have hUi : U ((A : Int) + (i : Int)) := by unfold U; omega
      have f3 : (bitsI v (8 * (i : Int)) 16 == bitsI v (8 * (i : Int)) 16) = true := beq_self_eq_true _
      go_wp2_with (first | (go_at_call 14; refine (read_from (by assumption) _ _ hUi).mono ?_; rintro e w' ⟨rfl, hs⟩) | (go_at_call 21; refine (rbits_any _ _ _ _).mono ?_; rintro e w' ⟨rfl, rfl⟩))
      refine ⟨⟨j + 1, by omega, ?_, by assumption⟩, ?_⟩
      · rw [show (((j + 1) * 2 : Nat) : Int) = (i : Int) + 2 by omega]
      · simp [intOf]; omega
    · have h8 : j * 2 = 8 := by omega
      rw [h8]
      go_wp2_with fail
      refine (read_from hr _ _ hU8).mono ?_
      rintro e w5 ⟨rfl, s5⟩
      go_wp2_with fail
      refine (copy_from s5).mono ?_
      rintro e w6 ⟨p', q', rfl, s6⟩
      go_wp2_with fail
      refine (write2_from s6 _ _ _ hU).mono ?_
      rintro e w7 ⟨rfl, s7⟩
      rw [hC] at s7
      go_wp2_with fail
      refine (read2_from s7 _ _ hU).mono ?_
      rintro e w8 ⟨rfl, s8⟩
      clear s5 s6 s7 hr
      go_wp2_with (first | (go_at_call 20; refine (same2_from (by assumption)).mono ?_; rintro e w' ⟨rfl, hs⟩) | (go_at_call 22; refine (rzext_from (by assumption) hv _).mono ?_; rintro e w' ⟨rfl, hs⟩))
      go_ret
      exact ⟨rfl, St2.k (by assumption)⟩
set_option maxRecDepth 100000 in
set_option maxHeartbeats 4000000 in
theorem mback_4 (t v n : Int) (hv : U v) (t0 : 0 ≤ t) (t1 : t ≤ 65535) (n0 : 0 ≤ n) (n1 : n ≤ 255) (A : Nat) (hA : A % 8 = 0) (hA2 : A + 16 ≤ 32768) (he : bits .andNot .u64 (t % 32752) 7 = (A : Int)) (hn : n % 4 = 2) (w : World) :
    Calls Try.prog 4 #[.int .u16 t, .int .u64 v, .int .u8 n] w fun e w' => e = .returned (.bool true) ∧ Kept w w' := by
  have hU : U (A : Int) := by unfold U; omega
  have hU8 : U ((A : Int) + 8) := by unfold U; omega
  have c8 : codeI (A : Int) 8 = 0 := code_in (i := 0) (k := 8) hA hA2 (by omega) (by omega) (by omega)
  have ck : codeI (A : Int) 4 = 0 := code_in (i := 0) (k := 4) hA hA2 (by omega) (by omega) (by omega)
  have c88 : codeI ((A : Int) + 8) 8 = 0 := code_in (i := 8) (k := 8) hA hA2 (by omega) (by omega) (by omega)
  have hnv : bits .xor .u64 IntKind.u64.max v = notV v := rfl
  have hB : wrZ (wrZ (fun _ => 0) (A : Int) 8 v) ((A : Int) + 8) 8 (notV v) = mB A v (notV v) := by
    rw [show wrZ (fun _ => 0) (A : Int) 8 v = wrF (fun _ => 0) A 8 v from wrZ_yes (N := 8) c8]
    exact wrZ_yes (A := A + 8) (N := 8) c88
  have hC : wrZ (mB A v (notV v)) (A : Int) 4 0 = wrF (mB A v (notV v)) A 4 0 := wrZ_yes (N := 4) ck
  have r1 : rdZ (mB A v (notV v)) ((A : Int) + 8) 8 = notV v := back_next hA hA2 (U_xor _ _)
  have r2 : rdZ (mB A v (notV v)) (A : Int) 8 = v := back_whole hA hA2 hv
  have r3 : (sameM (wrF (mB A v (notV v)) A 4 0) (mB A v (notV v)) == (zextI v 32 == 0)) = true := by
    have e := back_same (u := notV v) (k := 4) hA2 (by omega) (by omega) hv
    rw [e]
    exact beq_self_eq_true _
  have f1 : (v == v) = true := beq_self_eq_true _
  have f2 : (notV v == notV v) = true := beq_self_eq_true _
  go_enter Try.func4, Try.ntmps4
  go_wp2_with fail
  refine (known6_any _).mono ?_
  rintro e w1 ⟨rfl, k1⟩
  go_wp2_with fail
  refine (new_from k1).mono ?_
  rintro e w2 ⟨p, q, rfl, s1⟩
  go_wp2_with fail
  refine (write_from s1 _ _ _ hU).mono ?_
  rintro e w3 ⟨rfl, s3⟩
  go_wp2_with fail
  refine (write_from s3 _ _ _ hU8).mono ?_
  rintro e w4 ⟨rfl, s4⟩
  rw [hB] at s4
  clear s1 s3 k1
  go_wp2
  go_loopw [10] (fun i wr => ∃ j : Nat, j * 4 ≤ 8 ∧ i = .int .i64 ((j * 4 : Nat) : Int) ∧ St w wr p q (mB A v (notV v))) (fun i _ => 8 - (intOf i).toNat)
  case atStart => exact ⟨0, by omega, rfl, s4⟩
  case round =>
    obtain ⟨j, hj, rfl, hr⟩ := hrel
    clear s4
    by_cases hlt : j * 4 < 8
    · generalize hi : j * 4 = i at *
      have hik : i % 4 = 0 := by omega
      have hi8 : i + 4 ≤ 8 := by omega
      have hil : (i : Int) < 8 := by omega
      have c : codeI ((A : Int) + (i : Int)) 4 = 0 := code_in (i := i) (k := 4) hA hA2 (by omega) hik (by omega)
      have r : rdZ (mB A v (notV v)) ((A : Int) + (i : Int)) 4 = bitsI v (8 * (i : Int)) 32 := by
        have e := back_part (u := notV v) (i := i) (k := 4) hA hA2 (by omega) hik hi8 hv
        rw [show ((8 * i : Nat) : Int) = 8 * (i : Int) by omega] at e
        exact e
      have hUi : U ((A : Int) + (i : Int)) := by unfold U; omega
      have f3 : (bitsI v (8 * (i : Int)) 32 == bitsI v (8 * (i : Int)) 32) = true := beq_self_eq_true _
      go_wp2_with (first | (go_at_call 14; refine (read_from (by assumption) _ _ hUi).mono ?_; rintro e w' ⟨rfl, hs⟩) | (go_at_call 21; refine (rbits_any _ _ _ _).mono ?_; rintro e w' ⟨rfl, rfl⟩))
      refine ⟨⟨j + 1, by omega, ?_, by assumption⟩, ?_⟩
      · rw [show (((j + 1) * 4 : Nat) : Int) = (i : Int) + 4 by omega]
      · simp [intOf]; omega
    · have h8 : j * 4 = 8 := by omega
      rw [h8]
      go_wp2_with fail
      refine (read_from hr _ _ hU8).mono ?_
      rintro e w5 ⟨rfl, s5⟩
      go_wp2_with fail
      refine (copy_from s5).mono ?_
      rintro e w6 ⟨p', q', rfl, s6⟩
      go_wp2_with fail
      refine (write2_from s6 _ _ _ hU).mono ?_
      rintro e w7 ⟨rfl, s7⟩
      rw [hC] at s7
      go_wp2_with fail
      refine (read2_from s7 _ _ hU).mono ?_
      rintro e w8 ⟨rfl, s8⟩
      clear s5 s6 s7 hr
      go_wp2_with (first | (go_at_call 20; refine (same2_from (by assumption)).mono ?_; rintro e w' ⟨rfl, hs⟩) | (go_at_call 22; refine (rzext_from (by assumption) hv _).mono ?_; rintro e w' ⟨rfl, hs⟩))
      go_ret
      exact ⟨rfl, St2.k (by assumption)⟩
set_option maxRecDepth 100000 in
set_option maxHeartbeats 4000000 in
theorem mback_8 (t v n : Int) (hv : U v) (t0 : 0 ≤ t) (t1 : t ≤ 65535) (n0 : 0 ≤ n) (n1 : n ≤ 255) (A : Nat) (hA : A % 8 = 0) (hA2 : A + 16 ≤ 32768) (he : bits .andNot .u64 (t % 32752) 7 = (A : Int)) (hn : n % 4 = 3) (w : World) :
    Calls Try.prog 4 #[.int .u16 t, .int .u64 v, .int .u8 n] w fun e w' => e = .returned (.bool true) ∧ Kept w w' := by
  have hU : U (A : Int) := by unfold U; omega
  have hU8 : U ((A : Int) + 8) := by unfold U; omega
  have c8 : codeI (A : Int) 8 = 0 := code_in (i := 0) (k := 8) hA hA2 (by omega) (by omega) (by omega)
  have ck : codeI (A : Int) 8 = 0 := code_in (i := 0) (k := 8) hA hA2 (by omega) (by omega) (by omega)
  have c88 : codeI ((A : Int) + 8) 8 = 0 := code_in (i := 8) (k := 8) hA hA2 (by omega) (by omega) (by omega)
  have hnv : bits .xor .u64 IntKind.u64.max v = notV v := rfl
  have hB : wrZ (wrZ (fun _ => 0) (A : Int) 8 v) ((A : Int) + 8) 8 (notV v) = mB A v (notV v) := by
    rw [show wrZ (fun _ => 0) (A : Int) 8 v = wrF (fun _ => 0) A 8 v from wrZ_yes (N := 8) c8]
    exact wrZ_yes (A := A + 8) (N := 8) c88
  have hC : wrZ (mB A v (notV v)) (A : Int) 8 0 = wrF (mB A v (notV v)) A 8 0 := wrZ_yes (N := 8) ck
  have r1 : rdZ (mB A v (notV v)) ((A : Int) + 8) 8 = notV v := back_next hA hA2 (U_xor _ _)
  have r2 : rdZ (mB A v (notV v)) (A : Int) 8 = v := back_whole hA hA2 hv
  have r3 : (sameM (wrF (mB A v (notV v)) A 8 0) (mB A v (notV v)) == (zextI v 64 == 0)) = true := by
    have e := back_same (u := notV v) (k := 8) hA2 (by omega) (by omega) hv
    rw [e]
    exact beq_self_eq_true _
  have f1 : (v == v) = true := beq_self_eq_true _
  have f2 : (notV v == notV v) = true := beq_self_eq_true _
  go_enter Try.func4, Try.ntmps4
  go_wp2_with fail
  refine (known6_any _).mono ?_
  rintro e w1 ⟨rfl, k1⟩
  go_wp2_with fail
  refine (new_from k1).mono ?_
  rintro e w2 ⟨p, q, rfl, s1⟩
  go_wp2_with fail
  refine (write_from s1 _ _ _ hU).mono ?_
  rintro e w3 ⟨rfl, s3⟩
  go_wp2_with fail
  refine (write_from s3 _ _ _ hU8).mono ?_
  rintro e w4 ⟨rfl, s4⟩
  rw [hB] at s4
  clear s1 s3 k1
  go_wp2
  go_loopw [10] (fun i wr => ∃ j : Nat, j * 8 ≤ 8 ∧ i = .int .i64 ((j * 8 : Nat) : Int) ∧ St w wr p q (mB A v (notV v))) (fun i _ => 8 - (intOf i).toNat)
  case atStart => exact ⟨0, by omega, rfl, s4⟩
  case round =>
    obtain ⟨j, hj, rfl, hr⟩ := hrel
    clear s4
    by_cases hlt : j * 8 < 8
    · generalize hi : j * 8 = i at *
      have hik : i % 8 = 0 := by omega
      have hi8 : i + 8 ≤ 8 := by omega
      have hil : (i : Int) < 8 := by omega
      have c : codeI ((A : Int) + (i : Int)) 8 = 0 := code_in (i := i) (k := 8) hA hA2 (by omega) hik (by omega)
      have r : rdZ (mB A v (notV v)) ((A : Int) + (i : Int)) 8 = bitsI v (8 * (i : Int)) 64 := by
        have e := back_part (u := notV v) (i := i) (k := 8) hA hA2 (by omega) hik hi8 hv
        rw [show ((8 * i : Nat) : Int) = 8 * (i : Int) by omega] at e
        exact e
      have hUi : U ((A : Int) + (i : Int)) := by unfold U; omega
      have f3 : (bitsI v (8 * (i : Int)) 64 == bitsI v (8 * (i : Int)) 64) = true := beq_self_eq_true _
      go_wp2_with (first | (go_at_call 14; refine (read_from (by assumption) _ _ hUi).mono ?_; rintro e w' ⟨rfl, hs⟩) | (go_at_call 21; refine (rbits_any _ _ _ _).mono ?_; rintro e w' ⟨rfl, rfl⟩))
      refine ⟨⟨j + 1, by omega, ?_, by assumption⟩, ?_⟩
      · rw [show (((j + 1) * 8 : Nat) : Int) = (i : Int) + 8 by omega]
      · simp [intOf]; omega
    · have h8 : j * 8 = 8 := by omega
      rw [h8]
      go_wp2_with fail
      refine (read_from hr _ _ hU8).mono ?_
      rintro e w5 ⟨rfl, s5⟩
      go_wp2_with fail
      refine (copy_from s5).mono ?_
      rintro e w6 ⟨p', q', rfl, s6⟩
      go_wp2_with fail
      refine (write2_from s6 _ _ _ hU).mono ?_
      rintro e w7 ⟨rfl, s7⟩
      rw [hC] at s7
      go_wp2_with fail
      refine (read2_from s7 _ _ hU).mono ?_
      rintro e w8 ⟨rfl, s8⟩
      clear s5 s6 s7 hr
      go_wp2_with (first | (go_at_call 20; refine (same2_from (by assumption)).mono ?_; rintro e w' ⟨rfl, hs⟩) | (go_at_call 22; refine (rzext_from (by assumption) hv _).mono ?_; rintro e w' ⟨rfl, hs⟩))
      go_ret
      exact ⟨rfl, St2.k (by assumption)⟩
theorem and_not7 (x : Nat) (hx : x < 32768) : bits .andNot .u64 (x : Int) 7 = ((x - x % 8 : Nat) : Int) := by
  have hU : U (x : Int) := by unfold U; omega
  refine (U_andNot _ _).ext (by unfold U; omega) fun i hi => ?_
  rw [tb_andNot hU (by unfold U; omega) i hi]
  have e : x - x % 8 = (x / 8) * 2 ^ 3 := by omega
  rw [e]
  simp only [tb, Int.toNat_natCast]
  rw [Nat.testBit_mul_two_pow]
  have d : (x / 8).testBit (i - 3) = x.testBit (3 + (i - 3)) := by
    rw [show x / 8 = x / 2 ^ 3 by rfl, Nat.testBit_div_two_pow, Nat.add_comm]
  rw [d]
  by_cases h : 3 ≤ i
  · rw [show 3 + (i - 3) = i by omega, decide_eq_true h]
    have z : Nat.testBit (7 : Int).toNat i = false := Nat.testBit_lt_two_pow (Nat.lt_of_lt_of_le (show (7 : Int).toNat < 2 ^ 3 by decide) (Nat.pow_le_pow_right (by decide) h))
    rw [z]; simp
  · rw [decide_eq_false h]
    have z : Nat.testBit (7 : Int).toNat i = true := by
      have : i = 0 ∨ i = 1 ∨ i = 2 := by omega
      rcases this with rfl | rfl | rfl <;> decide
    rw [z]; simp
theorem mback_any (t v n : Int) (t0 : 0 ≤ t) (t1 : t ≤ 65535) (hv : U v) (n0 : 0 ≤ n) (n1 : n ≤ 255) (w : World) :
    Calls Try.prog 4 #[.int .u16 t, .int .u64 v, .int .u8 n] w fun e w' => e = .returned (.bool true) ∧ Kept w w' := by
  obtain ⟨x, hx⟩ := Int.eq_ofNat_of_zero_le (show 0 ≤ t % 32752 by omega)
  have he : bits .andNot .u64 (t % 32752) 7 = ((x - x % 8 : Nat) : Int) := by rw [hx]; exact and_not7 x (by omega)
  have hn : n % 4 = 0 ∨ n % 4 = 1 ∨ n % 4 = 2 ∨ n % 4 = 3 := by omega
  rcases hn with hn | hn | hn | hn
  · exact mback_1 t v n hv t0 t1 n0 n1 _ (by omega) (by omega) he hn w
  · exact mback_2 t v n hv t0 t1 n0 n1 _ (by omega) (by omega) he hn w
  · exact mback_4 t v n hv t0 t1 n0 n1 _ (by omega) (by omega) he hn w
  · exact mback_8 t v n hv t0 t1 n0 n1 _ (by omega) (by omega) he hn w
end Go.Proofs.Ytgeefklpljolaaa
