/-
  What package mem's calls answer (the landed package's): walked whole, for every argument.
-/
import Derived.Test.YtpplclenokfpeaaDoorMemCopy
namespace Go.Proofs.YtpplclenokfpeaaDoor
open Go.RowKit
abbrev ProgAt (w : World) (p q : Nat) (B : Nat → Int) : Prop := MemAt 97 5 w p q B
theorem mnew_any (w : World) :
    Calls Tryd.prog 20 #[] w fun e w' => ∃ p q, e = .returned (.pointer (some ⟨p, 0, none⟩)) ∧ ProgAt w' p q (fun _ => 0) ∧ w.heap.size ≤ p ∧ w.heap.size ≤ q ∧ Kept w w' := by
  have hmk := make_mem
  go_enter Tryd.func20, Tryd.ntmps20
  go_wp2
  go_ret
  exact ⟨_, _, rfl, mem_new _ w, by omega, by omega, ((Only.refl _ w).alloc _).alloc _⟩
/-- Whether a place is a multiple of a size that there is. -/
def algB (a n : Int) : Bool := decide ((n = 1 ∨ n = 2 ∨ n = 4 ∨ n = 8) ∧ a % n = 0)
/-- Whether n bytes from a place on are all there. -/
def fitsB' (a n : Int) : Bool := decide (a ≤ 32768 ∧ n ≤ 32768 - a)
set_option maxHeartbeats 2000000 in
theorem aligned_any (a n : Int) (ha : U a) (w : World) :
    Calls Tryd.prog 65 #[.int .u64 a, .int .i64 n] w fun e w' => e = .returned (.bool (algB a n)) ∧ w' = w := by
  have h0 := ha.1
  clear ha
  by_cases hn : n = 1 ∨ n = 2 ∨ n = 4 ∨ n = 8
  · rcases hn with rfl | rfl | rfl | rfl
    all_goals
      go_enter Tryd.func65, Tryd.ntmps65
      go_wp2
      all_goals
        go_ret
        refine ⟨ret_bool ?_, rfl⟩
        unfold algB
        apply Bool.eq_iff_iff.2
        simp
  · have e : algB a n = false := decide_eq_false fun h => hn h.1
    rw [e]
    have n1 : (n == 1) = false := beq_eq_false_iff_ne.2 (by omega)
    have n2 : (n == 2) = false := beq_eq_false_iff_ne.2 (by omega)
    have n4 : (n == 4) = false := beq_eq_false_iff_ne.2 (by omega)
    have n8 : (n == 8) = false := beq_eq_false_iff_ne.2 (by omega)
    clear hn
    go_enter Tryd.func65, Tryd.ntmps65
    go_wp2
    go_ret
    exact ⟨rfl, rfl⟩
set_option maxHeartbeats 2000000 in
theorem fits_any (a n : Int) (ha : U a) (w : World) (p q : Nat) (B : Nat → Int) (hm : ProgAt w p q B) :
    Calls Tryd.prog 66 #[.pointer (some ⟨p, 0, none⟩), .int .u64 a, .int .u64 n] w fun e w' => e = .returned (.bool (fitsB' a n)) ∧ w' = w := by
  have hc := hm.cell
  have h0 := ha.1
  have h9 := ha.2
  clear hm ha
  by_cases h : a ≤ 32768
  · by_cases h2 : n ≤ 32768 - a
    · have e : fitsB' a n = true := decide_eq_true ⟨h, h2⟩
      rw [e]
      go_enter Tryd.func66, Tryd.ntmps66
      go_wp2
      go_ret
      exact ⟨ret_bool (by simp), rfl⟩
    · have e : fitsB' a n = false := decide_eq_false fun h => h2 h.2
      rw [e]
      go_enter Tryd.func66, Tryd.ntmps66
      go_wp2
      go_ret
      exact ⟨ret_bool (by simp), rfl⟩
  · have e : fitsB' a n = false := decide_eq_false fun h' => h h'.1
    rw [e]
    go_enter Tryd.func66, Tryd.ntmps66
    go_wp2
    go_ret
    exact ⟨rfl, rfl⟩
theorem code_off {a n : Int} (h : algB a n = false) : codeI a n = 61 := by
  have := of_decide_eq_false h
  apply code_61
  by_cases hn : n = 1 ∨ n = 2 ∨ n = 4 ∨ n = 8
  · right; exact fun e => this ⟨hn, e⟩
  · left; exact hn
theorem code_past {a n : Int} (ha : U a) (h : algB a n = true) (h2 : fitsB' a n = false) : codeI a n = 60 := by
  have h1 := of_decide_eq_true h
  have h3 := of_decide_eq_false h2
  have h0 := ha.1
  unfold codeI
  obtain ⟨hn, hm⟩ := h1
  rcases hn with rfl | rfl | rfl | rfl <;> rw [if_neg (by omega), if_pos (by omega)]
theorem code_yes {a n : Int} (ha : U a) (h : algB a n = true) (h2 : fitsB' a n = true) : codeI a n = 0 := by
  have h1 := of_decide_eq_true h
  have h3 := of_decide_eq_true h2
  have h0 := ha.1
  unfold codeI
  obtain ⟨hn, hm⟩ := h1
  rcases hn with rfl | rfl | rfl | rfl <;> rw [if_neg (by omega), if_neg (by omega)]
set_option maxHeartbeats 2000000 in
theorem refuses_any (a n : Int) (ha : U a) (w : World) (p q : Nat) (B : Nat → Int) (hm : ProgAt w p q B) :
    Calls Tryd.prog 46 #[.pointer (some ⟨p, 0, none⟩), .int .u64 a, .int .i64 n] w fun e w' => e = .returned (.int .i64 (codeI a n)) ∧ w' = w := by
  by_cases hg : algB a n = true
  · have hn : IntKind.u64.wrap n = n := by
      have := (of_decide_eq_true hg).1
      rcases this with rfl | rfl | rfl | rfl <;> rfl
    by_cases hf : fitsB' a n = true
    · rw [code_yes ha hg hf]
      go_enter Tryd.func46, Tryd.ntmps46
      go_wp2_with first | (go_at_call 65; refine (aligned_any _ _ ha _).mono ?_; rintro e w' ⟨rfl, rfl⟩) | (go_at_call 66; refine (fits_any _ _ ha _ p q B hm).mono ?_; rintro e w' ⟨rfl, rfl⟩)
      go_ret
      exact ⟨rfl, rfl⟩
    · have hf' : fitsB' a n = false := by simpa using hf
      rw [code_past ha hg hf']
      go_enter Tryd.func46, Tryd.ntmps46
      go_wp2_with first | (go_at_call 65; refine (aligned_any _ _ ha _).mono ?_; rintro e w' ⟨rfl, rfl⟩) | (go_at_call 66; refine (fits_any _ _ ha _ p q B hm).mono ?_; rintro e w' ⟨rfl, rfl⟩)
      go_ret
      exact ⟨rfl, rfl⟩
  · have hg' : algB a n = false := by simpa using hg
    rw [code_off hg']
    go_enter Tryd.func46, Tryd.ntmps46
    go_wp2_with (go_at_call 65; refine (aligned_any _ _ ha _).mono ?_; rintro e w' ⟨rfl, rfl⟩)
    go_ret
    exact ⟨rfl, rfl⟩
set_option maxHeartbeats 2000000 in
theorem mread_no (a n : Int) (ha : U a) (h : ¬ codeI a n = 0) (w : World) (p q : Nat) (B : Nat → Int) (hm : ProgAt w p q B) :
    Calls Tryd.prog 70 #[.pointer (some ⟨p, 0, none⟩), .int .u64 a, .int .i64 n] w fun e w' => e = .returned (.tuple #[.int .u64 0, .int .i64 (codeI a n)]) ∧ Kept w w' := by
  have hne : (codeI a n != 0) = true := by simpa using h
  go_enter Tryd.func70, Tryd.ntmps70
  go_wp2_with (go_at_call 46; refine (refuses_any _ _ ha _ p q B hm).mono ?_; rintro e w' ⟨rfl, rfl⟩)
  go_ret2
  exact ⟨rfl, Only.refl _ _⟩
set_option maxHeartbeats 2000000 in
theorem mread_yes (a n : Nat) (hn : n = 1 ∨ n = 2 ∨ n = 4 ∨ n = 8) (h : a + n ≤ 32768) (hcode : codeI (a : Int) (n : Int) = 0) (w : World) (p q : Nat) (B : Nat → Int) (hm : ProgAt w p q B) :
    Calls Tryd.prog 70 #[.pointer (some ⟨p, 0, none⟩), .int .u64 (a : Int), .int .i64 (n : Int)] w fun e w' => e = .returned (.tuple #[.int .u64 (rdF B a n), .int .i64 0]) ∧ Kept w w' := by
  have hc := hm.cell
  have hv := fun c => conv_mem hm a n c h
  have hg := get_text (B := B) hn h hm.byte
  have hl : a + n - a = n := by omega
  go_enter Tryd.func70, Tryd.ntmps70
  go_wp2_with fail
  refine (refuses_any _ _ (by unfold U; omega) _ p q B hm).mono ?_
  rintro e w' ⟨rfl, rfl⟩
  rw [hcode]
  go_wp2_with (go_at_call 74; refine (get_any _ _ _ (by decide) _).mono ?_; rintro e w1 ⟨rfl, hg1⟩)
  go_ret2
  exact ⟨rfl, Only.of_grown hg1⟩
/-- What is read: the bytes, or 0 where there are none. -/
def rdZ (B : Nat → Int) (a n : Int) : Int := if codeI a n = 0 then rdF B a.toNat n.toNat else 0
theorem code_zero {a n : Int} (h : codeI a n = 0) : (n = 1 ∨ n = 2 ∨ n = 4 ∨ n = 8) ∧ a % n = 0 ∧ a < 32768 := by
  unfold codeI at h
  split at h
  · omega
  · rename_i h1
    split at h
    · omega
    · refine ⟨Classical.byContradiction fun hn => h1 (.inl hn), Classical.byContradiction fun hn => h1 (.inr hn), by omega⟩
theorem mread_any (a n : Int) (ha : U a) (w : World) (p q : Nat) (B : Nat → Int) (hm : ProgAt w p q B) :
    Calls Tryd.prog 70 #[.pointer (some ⟨p, 0, none⟩), .int .u64 a, .int .i64 n] w fun e w' => e = .returned (.tuple #[.int .u64 (rdZ B a n), .int .i64 (codeI a n)]) ∧ Kept w w' := by
  unfold rdZ
  by_cases h : codeI a n = 0
  · obtain ⟨h1, h2, h3⟩ := code_zero h
    have h0 := ha.1
    obtain ⟨A, rfl⟩ := Int.eq_ofNat_of_zero_le h0
    obtain ⟨M, rfl⟩ := Int.eq_ofNat_of_zero_le (show 0 ≤ n by omega)
    have hfit : A + M ≤ 32768 := by rcases h1 with e | e | e | e <;> rw [e] at h2 <;> omega
    rw [if_pos h, h]
    exact mread_yes A M (by omega) hfit h w p q B hm
  · rw [if_neg h]; exact mread_no a n ha h w p q B hm
set_option maxHeartbeats 2000000 in
theorem mwrite_no (a n v : Int) (ha : U a) (h : ¬ codeI a n = 0) (w : World) (p q : Nat) (B : Nat → Int) (hm : ProgAt w p q B) :
    Calls Tryd.prog 21 #[.pointer (some ⟨p, 0, none⟩), .int .u64 a, .int .i64 n, .int .u64 v] w fun e w' => e = .returned (.int .i64 (codeI a n)) ∧ Kept w w' := by
  have hne : (codeI a n != 0) = true := by simpa using h
  go_enter Tryd.func21, Tryd.ntmps21
  go_wp2_with (go_at_call 46; refine (refuses_any _ _ ha _ p q B hm).mono ?_; rintro e w' ⟨rfl, rfl⟩)
  go_ret
  exact ⟨rfl, Only.refl _ _⟩
end Go.Proofs.YtpplclenokfpeaaDoor
