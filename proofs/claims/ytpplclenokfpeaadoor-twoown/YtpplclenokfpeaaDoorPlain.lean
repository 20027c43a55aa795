/-
  What the calls of package word that only reckon come to (High, Sext, Zext, Bits, Set and the helpers below them): walked whole, for every argument.
-/
import Derived.Test.YtpplclenokfpeaaDoorBase
namespace Go.Proofs.YtpplclenokfpeaaDoor
open Go.RowKit
def clamp (x a b : Int) : Int := if b < (if x < a then a else x) then b else (if x < a then a else x)
theorem clamp_bd (x a b : Int) (h : a ≤ b) : a ≤ clamp x a b ∧ clamp x a b ≤ b := by
  unfold clamp; split <;> split <;> omega
set_option maxHeartbeats 400000 in
theorem held_any (x a b : Int) (w : World) :
    Calls Tryd.prog 68 #[.int .i64 x, .int .i64 a, .int .i64 b] w fun e w' => e = .returned (.int .i64 (clamp x a b)) ∧ w' = w := by
  have H : Hid (clamp x a b = if b < (if x < a then a else x) then b else (if x < a then a else x)) := rfl
  go_enter Tryd.func68, Tryd.ntmps68
  go_wp2
  all_goals
    go_ret
    exact ⟨ret_int (by rw [show clamp x a b = _ from H]; split <;> split <;> omega), rfl⟩
set_option maxHeartbeats 400000 in
theorem wbelow_any (x : Int) (h0 : 0 ≤ x) (h8 : x < 8) (w : World) :
    Calls Tryd.prog 67 #[.int .i64 x] w fun e w' => e = .returned (.int .u64 (x * 8)) ∧ w' = w := by
  go_enter Tryd.func67, Tryd.ntmps67
  go_wp2
  go_ret
  exact ⟨rfl, rfl⟩
def onesI (x : Int) : Int := IntKind.u64.wrap (IntKind.u64.wrap (2 ^ x.toNat) - 1)
set_option maxHeartbeats 400000 in
theorem ones_any (x : Int) (h0 : 0 ≤ x) (h8 : x ≤ 64) (w : World) :
    Calls Tryd.prog 76 #[.int .u64 x] w fun e w' => e = .returned (.int .u64 (onesI x)) ∧ w' = w := by
  go_enter Tryd.func76, Tryd.ntmps76
  go_wp2
  go_ret
  exact ⟨rfl, rfl⟩
def sextI (v n : Int) : Int := IntKind.u64.wrap (wrap64 (IntKind.u64.wrap (v * 2 ^ (64 - clamp n 1 64).toNat)) / 2 ^ (64 - clamp n 1 64).toNat)
def zextI (v n : Int) : Int := IntKind.u64.wrap (v * 2 ^ (64 - clamp n 1 64).toNat) / 2 ^ (64 - clamp n 1 64).toNat
def loI (lo : Int) : Int := clamp lo 0 63
def manyI (lo n : Int) : Int := clamp n 0 (64 - loI lo)
theorem lo_bd (lo : Int) : 0 ≤ loI lo ∧ loI lo ≤ 63 := clamp_bd _ _ _ (by omega)
theorem many_bd (lo n : Int) : 0 ≤ manyI lo n ∧ manyI lo n ≤ 64 - loI lo := clamp_bd _ _ _ (by have := lo_bd lo; omega)
set_option maxHeartbeats 400000 in
theorem part_any (lo n : Int) (w : World) :
    Calls Tryd.prog 75 #[.int .i64 lo, .int .i64 n] w fun e w' => e = .returned (.tuple #[.int .u64 (loI lo), .int .u64 (manyI lo n)]) ∧ w' = w := by
  obtain ⟨hb1, hb2⟩ := lo_bd lo
  obtain ⟨hb3, hb4⟩ := many_bd lo n
  go_enter Tryd.func75, Tryd.ntmps75
  go_wp2_with fail
  refine (held_any _ _ _ _).mono ?_
  rintro e w' ⟨rfl, rfl⟩
  rw [show clamp lo 0 63 = loI lo from rfl]
  go_wp2_with fail
  refine (held_any _ _ _ _).mono ?_
  rintro e w' ⟨rfl, rfl⟩
  rw [show clamp n 0 (64 - loI lo) = manyI lo n from rfl]
  go_wp2_with fail
  go_ret2
  exact ⟨rfl, rfl⟩
def bitsI (v lo n : Int) : Int := bits .and .u64 (v / 2 ^ (loI lo).toNat) (onesI (manyI lo n))
set_option maxHeartbeats 400000 in
theorem bits_any (v lo n : Int) (w : World) :
    Calls Tryd.prog 72 #[.int .u64 v, .int .i64 lo, .int .i64 n] w fun e w' => e = .returned (.int .u64 (bitsI v lo n)) ∧ w' = w := by
  obtain ⟨hb1, hb2⟩ := lo_bd lo
  obtain ⟨hb3, hb4⟩ := many_bd lo n
  go_enter Tryd.func72, Tryd.ntmps72
  go_wp2_with (first | (go_at_call 75; refine (part_any _ _ _).mono ?_; rintro e w' ⟨rfl, rfl⟩) | (go_at_call 76; refine (ones_any _ (by omega) (by omega) _).mono ?_; rintro e w' ⟨rfl, rfl⟩))
  go_ret
  exact ⟨rfl, rfl⟩
def placeI (lo n : Int) : Int := IntKind.u64.wrap (onesI (manyI lo n) * 2 ^ (loI lo).toNat)
def setI (v lo n x : Int) : Int := bits .or .u64 (bits .andNot .u64 v (placeI lo n)) (bits .and .u64 (IntKind.u64.wrap (x * 2 ^ (loI lo).toNat)) (placeI lo n))
set_option maxHeartbeats 400000 in
theorem set_any (v lo n x : Int) (w : World) :
    Calls Tryd.prog 79 #[.int .u64 v, .int .i64 lo, .int .i64 n, .int .u64 x] w fun e w' => e = .returned (.int .u64 (setI v lo n x)) ∧ w' = w := by
  obtain ⟨hb1, hb2⟩ := lo_bd lo
  obtain ⟨hb3, hb4⟩ := many_bd lo n
  go_enter Tryd.func79, Tryd.ntmps79
  go_wp2_with (first | (go_at_call 75; refine (part_any _ _ _).mono ?_; rintro e w' ⟨rfl, rfl⟩) | (go_at_call 76; refine (ones_any _ (by omega) (by omega) _).mono ?_; rintro e w' ⟨rfl, rfl⟩))
  go_ret
  exact ⟨rfl, rfl⟩
end Go.Proofs.YtpplclenokfpeaaDoor
