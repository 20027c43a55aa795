/-
  What package alu's inner functions answer (steps, oneIf, within, reckon): walked whole, for every argument; what the listed table of deeds holds.
-/
import Derived.Test.YtbeehnfmhclbmaaDoorCls
import Derived.Test.YtbeehnfmhclbmaaDoorRefAlu
namespace Go.Proofs.YtbeehnfmhclbmaaDoor
open Go.RowKit
theorem onef_any (c : Bool) (w : World) : Calls Tryd.prog 32 #[.bool c] w fun e w' => e = .returned (.int .u64 (yesI c)) ∧ w' = w := by
  cases c
  all_goals
    go_enter Tryd.func32, Tryd.ntmps32
    go_wp2
    go_ret
    exact ⟨rfl, rfl⟩
theorem steps64 (b : Int) (hb : U b) (w : World) : Calls Tryd.prog 33 #[.int .i64 64, .int .u64 b] w fun e w' => e = .returned (.int .u64 (b % 64)) ∧ w' = w := by
  have hb63 : bits .and .u64 b 63 = b % 64 := bits_mask .u64 64 (by decide) wraps_u64 6 (by decide) b hb.1 hb.2
  go_enter Tryd.func33, Tryd.ntmps33
  go_wp2
  go_ret
  exact ⟨rfl, rfl⟩
theorem steps32 (b : Int) (hb : U b) (w : World) : Calls Tryd.prog 33 #[.int .i64 32, .int .u64 b] w fun e w' => e = .returned (.int .u64 (b % 32)) ∧ w' = w := by
  have hb31 : bits .and .u64 b 31 = b % 32 := bits_mask .u64 64 (by decide) wraps_u64 5 (by decide) b hb.1 hb.2
  go_enter Tryd.func33, Tryd.ntmps33
  go_wp2
  go_ret
  exact ⟨rfl, rfl⟩
/-- What a deed comes to within a width. -/
def withI (wd d a b : Int) : Int := if d = 1 then IntKind.u64.wrap (a + b) else if d = 2 then IntKind.u64.wrap (a - b) else if d = 3 then yesI (decide (a < b)) else if d = 4 then yesI (decide (wrap64 a < wrap64 b)) else if d = 5 then bits .xor .u64 a b else if d = 6 then bits .or .u64 a b else if d = 7 then bits .and .u64 a b else if d = 8 then IntKind.u64.wrap (a * 2 ^ (b % wd).toNat) else if d = 9 then zextI a wd / 2 ^ (b % wd).toNat else if d = 10 then IntKind.u64.wrap (wrap64 (sextI a wd) / 2 ^ (b % wd).toNat) else 0
set_option maxRecDepth 100000 in
set_option maxHeartbeats 4000000 in
theorem with64 (d a b : Int) (hb : U b) (w : World) :
    Calls Tryd.prog 29 #[.int .i64 64, .int .u8 d, .int .u64 a, .int .u64 b] w fun e w' => e = .returned (.int .u64 (withI 64 d a b)) ∧ w' = w := by
  have h0 : 0 ≤ b % 64 := by omega
  have h1 : b % 64 < 64 := by omega
  go_enter Tryd.func29, Tryd.ntmps29
  go_wp2_with (first | (go_at_call 24; refine (high_any _ _ _).mono ?_; rintro e w' ⟨rfl, rfl⟩) | (go_at_call 32; refine (onef_any _ _).mono ?_; rintro e w' ⟨rfl, rfl⟩) | (go_at_call 33; refine (steps64 _ hb _).mono ?_; rintro e w' ⟨rfl, rfl⟩) | (go_at_call 26; refine (sext_any _ _ _).mono ?_; rintro e w' ⟨rfl, rfl⟩) | (go_at_call 27; refine (zext_any _ _ _).mono ?_; rintro e w' ⟨rfl, rfl⟩))
  all_goals
    go_ret
    refine ⟨ret_int ?_, rfl⟩
    simp only [beq_iff_eq, beq_eq_false_iff_ne, ne_eq] at *
    unfold withI
    repeat (first | rw [if_pos (by omega)] | rw [if_neg (by omega)])
set_option maxRecDepth 100000 in
set_option maxHeartbeats 4000000 in
theorem with32 (d a b : Int) (hb : U b) (w : World) :
    Calls Tryd.prog 29 #[.int .i64 32, .int .u8 d, .int .u64 a, .int .u64 b] w fun e w' => e = .returned (.int .u64 (withI 32 d a b)) ∧ w' = w := by
  have h0 : 0 ≤ b % 32 := by omega
  have h1 : b % 32 < 32 := by omega
  go_enter Tryd.func29, Tryd.ntmps29
  go_wp2_with (first | (go_at_call 24; refine (high_any _ _ _).mono ?_; rintro e w' ⟨rfl, rfl⟩) | (go_at_call 32; refine (onef_any _ _).mono ?_; rintro e w' ⟨rfl, rfl⟩) | (go_at_call 33; refine (steps32 _ hb _).mono ?_; rintro e w' ⟨rfl, rfl⟩) | (go_at_call 26; refine (sext_any _ _ _).mono ?_; rintro e w' ⟨rfl, rfl⟩) | (go_at_call 27; refine (zext_any _ _ _).mono ?_; rintro e w' ⟨rfl, rfl⟩))
  all_goals
    go_ret
    refine ⟨ret_int ?_, rfl⟩
    simp only [beq_iff_eq, beq_eq_false_iff_ne, ne_eq] at *
    unfold withI
    repeat (first | rw [if_pos (by omega)] | rw [if_neg (by omega)])
/-- What a deed comes to: beside the bit for the lower half, within that. -/
def reckI (d a b : Int) : Int := if bits .and .u8 d 128 = 0 then withI 64 d a b else sextI (withI 32 (bits .andNot .u8 d 128) a b) 32
set_option maxHeartbeats 1000000 in
theorem reckon_any (d a b : Int) (hb : U b) (w : World) :
    Calls Tryd.prog 20 #[.int .u8 d, .int .u64 a, .int .u64 b] w fun e w' => e = .returned (.int .u64 (reckI d a b)) ∧ w' = w := by
  go_enter Tryd.func20, Tryd.ntmps20
  go_wp2_with fail
  · refine (with32 _ _ _ hb _).mono ?_
    rintro e w' ⟨rfl, rfl⟩
    go_wp2_with (go_at_call 26; refine (sext_any _ _ _).mono ?_; rintro e w' ⟨rfl, rfl⟩)
    go_ret
    refine ⟨ret_int ?_, rfl⟩
    simp only [bne_iff_ne, ne_eq] at *
    unfold reckI
    rw [if_neg (by assumption)]
  · refine (with64 _ _ _ hb _).mono ?_
    rintro e w' ⟨rfl, rfl⟩
    go_wp2
    go_ret
    refine ⟨ret_int ?_, rfl⟩
    simp only [bne_eq_false_iff_eq] at *
    unfold reckI
    rw [if_pos (by assumption)]
end Go.Proofs.YtbeehnfmhclbmaaDoor
