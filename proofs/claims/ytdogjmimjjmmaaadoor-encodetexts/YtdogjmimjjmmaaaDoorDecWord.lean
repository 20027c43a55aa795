/-
  What package decode's small calls answer (parts of a word, numbers with their sign): walked whole, for every word.
-/
import Derived.Test.YtdogjmimjjmmaaaDoorRefGuess
namespace Go.Proofs.YtdogjmimjjmmaaaDoor
open Go.RowKit
def clamp (x a b : Int) : Int := if b < (if x < a then a else x) then b else (if x < a then a else x)
theorem clamp_bd (x a b : Int) (h : a ≤ b) : a ≤ clamp x a b ∧ clamp x a b ≤ b := by
  unfold clamp; split <;> split <;> omega
set_option maxHeartbeats 400000 in
theorem held_any (x a b : Int) (w : World) :
    Calls Tryd.prog 60 #[.int .i64 x, .int .i64 a, .int .i64 b] w fun e w' => e = .returned (.int .i64 (clamp x a b)) ∧ w' = w := by
  have H : Hid (clamp x a b = if b < (if x < a then a else x) then b else (if x < a then a else x)) := rfl
  go_enter Tryd.func60, Tryd.ntmps60
  go_wp2
  all_goals
    go_ret
    exact ⟨ret_int (by rw [show clamp x a b = _ from H]; split <;> split <;> omega), rfl⟩
set_option maxHeartbeats 400000 in
theorem above_any (x : Int) (w : World) :
    Calls Tryd.prog 83 #[.int .i64 x] w fun e w' => e = .returned (.int .u64 (64 - clamp x 1 64)) ∧ w' = w := by
  obtain ⟨hb1, hb2⟩ := clamp_bd x 1 64 (by omega)
  go_enter Tryd.func83, Tryd.ntmps83
  go_wp2_with (go_at_call 60; refine (held_any _ _ _ _).mono ?_; rintro e w' ⟨rfl, rfl⟩)
  go_ret
  exact ⟨rfl, rfl⟩
def onesI (x : Int) : Int := IntKind.u64.wrap (IntKind.u64.wrap (2 ^ x.toNat) - 1)
set_option maxHeartbeats 400000 in
theorem ones_any (x : Int) (h0 : 0 ≤ x) (h8 : x ≤ 64) (w : World) :
    Calls Tryd.prog 63 #[.int .u64 x] w fun e w' => e = .returned (.int .u64 (onesI x)) ∧ w' = w := by
  go_enter Tryd.func63, Tryd.ntmps63
  go_wp2
  go_ret
  exact ⟨rfl, rfl⟩
def sextI (v n : Int) : Int := IntKind.u64.wrap (wrap64 (IntKind.u64.wrap (v * 2 ^ (64 - clamp n 1 64).toNat)) / 2 ^ (64 - clamp n 1 64).toNat)
set_option maxHeartbeats 400000 in
theorem sext_any (v n : Int) (w : World) :
    Calls Tryd.prog 77 #[.int .u64 v, .int .i64 n] w fun e w' => e = .returned (.int .u64 (sextI v n)) ∧ w' = w := by
  obtain ⟨hb1, hb2⟩ := clamp_bd n 1 64 (by omega)
  go_enter Tryd.func77, Tryd.ntmps77
  go_wp2_with (go_at_call 83; refine (above_any _ _).mono ?_; rintro e w' ⟨rfl, rfl⟩)
  go_ret
  exact ⟨rfl, rfl⟩
def loI (lo : Int) : Int := clamp lo 0 63
def manyI (lo n : Int) : Int := clamp n 0 (64 - loI lo)
theorem lo_bd (lo : Int) : 0 ≤ loI lo ∧ loI lo ≤ 63 := clamp_bd _ _ _ (by omega)
theorem many_bd (lo n : Int) : 0 ≤ manyI lo n ∧ manyI lo n ≤ 64 - loI lo := clamp_bd _ _ _ (by have := lo_bd lo; omega)
set_option maxHeartbeats 400000 in
theorem wpart_any (lo n : Int) (w : World) :
    Calls Tryd.prog 62 #[.int .i64 lo, .int .i64 n] w fun e w' => e = .returned (.tuple #[.int .u64 (loI lo), .int .u64 (manyI lo n)]) ∧ w' = w := by
  obtain ⟨hb1, hb2⟩ := lo_bd lo
  obtain ⟨hb3, hb4⟩ := many_bd lo n
  go_enter Tryd.func62, Tryd.ntmps62
  go_wp2_with fail
  refine (held_any _ _ _ _).mono ?_
  rintro e w' ⟨rfl, rfl⟩
  rw [show clamp lo 0 63 = loI lo from rfl]
  go_wp2_with fail
  refine (held_any _ _ _ _).mono ?_
  rintro e w' ⟨rfl, rfl⟩
  rw [show clamp n 0 (64 - loI lo) = manyI lo n from rfl]
  go_wp2_with fail
  go_ret2
  exact ⟨rfl, rfl⟩
def bitsI (v lo n : Int) : Int := bits .and .u64 (v / 2 ^ (loI lo).toNat) (onesI (manyI lo n))
set_option maxHeartbeats 400000 in
theorem bits_any (v lo n : Int) (w : World) :
    Calls Tryd.prog 40 #[.int .u64 v, .int .i64 lo, .int .i64 n] w fun e w' => e = .returned (.int .u64 (bitsI v lo n)) ∧ w' = w := by
  obtain ⟨hb1, hb2⟩ := lo_bd lo
  obtain ⟨hb3, hb4⟩ := many_bd lo n
  go_enter Tryd.func40, Tryd.ntmps40
  go_wp2_with (first | (go_at_call 62; refine (wpart_any _ _ _).mono ?_; rintro e w' ⟨rfl, rfl⟩) | (go_at_call 63; refine (ones_any _ (by omega) (by omega) _).mono ?_; rintro e w' ⟨rfl, rfl⟩))
  go_ret
  exact ⟨rfl, rfl⟩
theorem bI_7_5 {v : Int} (h0 : 0 ≤ v) (h1 : v < 4294967296) : bitsI v 7 5 = v / 128 % 32 := by
  have a : loI 7 = 7 := by decide
  have b : manyI 7 5 = 5 := by decide
  have c : onesI 5 = 2 ^ 5 - 1 := by decide
  unfold bitsI
  rw [a, b, c, show (2 : Int) ^ (7 : Int).toNat = 128 from rfl, bits_mask .u64 64 (by decide) wraps_u64 5 (by decide) _ (by omega) (by omega), show (2 : Int) ^ 5 = 32 from rfl]
theorem bI_15_5 {v : Int} (h0 : 0 ≤ v) (h1 : v < 4294967296) : bitsI v 15 5 = v / 32768 % 32 := by
  have a : loI 15 = 15 := by decide
  have b : manyI 15 5 = 5 := by decide
  have c : onesI 5 = 2 ^ 5 - 1 := by decide
  unfold bitsI
  rw [a, b, c, show (2 : Int) ^ (15 : Int).toNat = 32768 from rfl, bits_mask .u64 64 (by decide) wraps_u64 5 (by decide) _ (by omega) (by omega), show (2 : Int) ^ 5 = 32 from rfl]
theorem bI_20_5 {v : Int} (h0 : 0 ≤ v) (h1 : v < 4294967296) : bitsI v 20 5 = v / 1048576 % 32 := by
  have a : loI 20 = 20 := by decide
  have b : manyI 20 5 = 5 := by decide
  have c : onesI 5 = 2 ^ 5 - 1 := by decide
  unfold bitsI
  rw [a, b, c, show (2 : Int) ^ (20 : Int).toNat = 1048576 from rfl, bits_mask .u64 64 (by decide) wraps_u64 5 (by decide) _ (by omega) (by omega), show (2 : Int) ^ 5 = 32 from rfl]
theorem bI_20_12 {v : Int} (h0 : 0 ≤ v) (h1 : v < 4294967296) : bitsI v 20 12 = v / 1048576 := by
  have a : loI 20 = 20 := by decide
  have b : manyI 20 12 = 12 := by decide
  have c : onesI 12 = 2 ^ 12 - 1 := by decide
  unfold bitsI
  rw [a, b, c, show (2 : Int) ^ (20 : Int).toNat = 1048576 from rfl, bits_mask .u64 64 (by decide) wraps_u64 12 (by decide) _ (by omega) (by omega), show (2 : Int) ^ 12 = 4096 from rfl]
  omega
theorem bI_25_7 {v : Int} (h0 : 0 ≤ v) (h1 : v < 4294967296) : bitsI v 25 7 = v / 33554432 := by
  have a : loI 25 = 25 := by decide
  have b : manyI 25 7 = 7 := by decide
  have c : onesI 7 = 2 ^ 7 - 1 := by decide
  unfold bitsI
  rw [a, b, c, show (2 : Int) ^ (25 : Int).toNat = 33554432 from rfl, bits_mask .u64 64 (by decide) wraps_u64 7 (by decide) _ (by omega) (by omega), show (2 : Int) ^ 7 = 128 from rfl]
  omega
theorem bI_31_1 {v : Int} (h0 : 0 ≤ v) (h1 : v < 4294967296) : bitsI v 31 1 = v / 2147483648 := by
  have a : loI 31 = 31 := by decide
  have b : manyI 31 1 = 1 := by decide
  have c : onesI 1 = 2 ^ 1 - 1 := by decide
  unfold bitsI
  rw [a, b, c, show (2 : Int) ^ (31 : Int).toNat = 2147483648 from rfl, bits_mask .u64 64 (by decide) wraps_u64 1 (by decide) _ (by omega) (by omega), show (2 : Int) ^ 1 = 2 from rfl]
  omega
theorem bI_7_1 {v : Int} (h0 : 0 ≤ v) (h1 : v < 4294967296) : bitsI v 7 1 = v / 128 % 2 := by
  have a : loI 7 = 7 := by decide
  have b : manyI 7 1 = 1 := by decide
  have c : onesI 1 = 2 ^ 1 - 1 := by decide
  unfold bitsI
  rw [a, b, c, show (2 : Int) ^ (7 : Int).toNat = 128 from rfl, bits_mask .u64 64 (by decide) wraps_u64 1 (by decide) _ (by omega) (by omega), show (2 : Int) ^ 1 = 2 from rfl]
theorem bI_25_6 {v : Int} (h0 : 0 ≤ v) (h1 : v < 4294967296) : bitsI v 25 6 = v / 33554432 % 64 := by
  have a : loI 25 = 25 := by decide
  have b : manyI 25 6 = 6 := by decide
  have c : onesI 6 = 2 ^ 6 - 1 := by decide
  unfold bitsI
  rw [a, b, c, show (2 : Int) ^ (25 : Int).toNat = 33554432 from rfl, bits_mask .u64 64 (by decide) wraps_u64 6 (by decide) _ (by omega) (by omega), show (2 : Int) ^ 6 = 64 from rfl]
theorem bI_8_4 {v : Int} (h0 : 0 ≤ v) (h1 : v < 4294967296) : bitsI v 8 4 = v / 256 % 16 := by
  have a : loI 8 = 8 := by decide
  have b : manyI 8 4 = 4 := by decide
  have c : onesI 4 = 2 ^ 4 - 1 := by decide
  unfold bitsI
  rw [a, b, c, show (2 : Int) ^ (8 : Int).toNat = 256 from rfl, bits_mask .u64 64 (by decide) wraps_u64 4 (by decide) _ (by omega) (by omega), show (2 : Int) ^ 4 = 16 from rfl]
theorem bI_12_20 {v : Int} (h0 : 0 ≤ v) (h1 : v < 4294967296) : bitsI v 12 20 = v / 4096 := by
  have a : loI 12 = 12 := by decide
  have b : manyI 12 20 = 20 := by decide
  have c : onesI 20 = 2 ^ 20 - 1 := by decide
  unfold bitsI
  rw [a, b, c, show (2 : Int) ^ (12 : Int).toNat = 4096 from rfl, bits_mask .u64 64 (by decide) wraps_u64 20 (by decide) _ (by omega) (by omega), show (2 : Int) ^ 20 = 1048576 from rfl]
  omega
theorem bI_12_8 {v : Int} (h0 : 0 ≤ v) (h1 : v < 4294967296) : bitsI v 12 8 = v / 4096 % 256 := by
  have a : loI 12 = 12 := by decide
  have b : manyI 12 8 = 8 := by decide
  have c : onesI 8 = 2 ^ 8 - 1 := by decide
  unfold bitsI
  rw [a, b, c, show (2 : Int) ^ (12 : Int).toNat = 4096 from rfl, bits_mask .u64 64 (by decide) wraps_u64 8 (by decide) _ (by omega) (by omega), show (2 : Int) ^ 8 = 256 from rfl]
theorem bI_20_1 {v : Int} (h0 : 0 ≤ v) (h1 : v < 4294967296) : bitsI v 20 1 = v / 1048576 % 2 := by
  have a : loI 20 = 20 := by decide
  have b : manyI 20 1 = 1 := by decide
  have c : onesI 1 = 2 ^ 1 - 1 := by decide
  unfold bitsI
  rw [a, b, c, show (2 : Int) ^ (20 : Int).toNat = 1048576 from rfl, bits_mask .u64 64 (by decide) wraps_u64 1 (by decide) _ (by omega) (by omega), show (2 : Int) ^ 1 = 2 from rfl]
theorem bI_21_10 {v : Int} (h0 : 0 ≤ v) (h1 : v < 4294967296) : bitsI v 21 10 = v / 2097152 % 1024 := by
  have a : loI 21 = 21 := by decide
  have b : manyI 21 10 = 10 := by decide
  have c : onesI 10 = 2 ^ 10 - 1 := by decide
  unfold bitsI
  rw [a, b, c, show (2 : Int) ^ (21 : Int).toNat = 2097152 from rfl, bits_mask .u64 64 (by decide) wraps_u64 10 (by decide) _ (by omega) (by omega), show (2 : Int) ^ 10 = 1024 from rfl]
theorem bI_0_7 {v : Int} (h0 : 0 ≤ v) (h1 : v < 4294967296) : bitsI v 0 7 = v % 128 := by
  have a : loI 0 = 0 := by decide
  have b : manyI 0 7 = 7 := by decide
  have c : onesI 7 = 2 ^ 7 - 1 := by decide
  unfold bitsI
  rw [a, b, c, show (2 : Int) ^ (0 : Int).toNat = 1 from rfl, bits_mask .u64 64 (by decide) wraps_u64 7 (by decide) _ (by omega) (by omega), show (2 : Int) ^ 7 = 128 from rfl]
  omega
theorem dpart_any (v lo n : Int) (w : World) :
    Calls Tryd.prog 53 #[.int .u64 v, .int .i64 lo, .int .i64 n] w fun e w' => e = .returned (.int .i64 (wrap64 (bitsI v lo n))) ∧ w' = w := by
  go_enter Tryd.func53, Tryd.ntmps53
  go_wp2_with (go_at_call 40; refine (bits_any _ _ _ _).mono ?_; rintro e w' ⟨rfl, rfl⟩)
  go_ret
  exact ⟨rfl, rfl⟩
theorem pI_7_5 {v : Int} (h0 : 0 ≤ v) (h1 : v < 4294967296) : wrap64 (bitsI v 7 5) = v / 128 % 32 := by
  rw [bI_7_5 h0 h1]
  unfold wrap64
  omega
theorem pI_15_5 {v : Int} (h0 : 0 ≤ v) (h1 : v < 4294967296) : wrap64 (bitsI v 15 5) = v / 32768 % 32 := by
  rw [bI_15_5 h0 h1]
  unfold wrap64
  omega
theorem pI_20_5 {v : Int} (h0 : 0 ≤ v) (h1 : v < 4294967296) : wrap64 (bitsI v 20 5) = v / 1048576 % 32 := by
  rw [bI_20_5 h0 h1]
  unfold wrap64
  omega
theorem pI_20_12 {v : Int} (h0 : 0 ≤ v) (h1 : v < 4294967296) : wrap64 (bitsI v 20 12) = v / 1048576 := by
  rw [bI_20_12 h0 h1]
  unfold wrap64
  omega
theorem pI_0_7 {v : Int} (h0 : 0 ≤ v) (h1 : v < 4294967296) : wrap64 (bitsI v 0 7) = v % 128 := by
  rw [bI_0_7 h0 h1]
  unfold wrap64
  omega
theorem sI_12 {v : Int} (h0 : 0 ≤ v) (h1 : v < 4096) : wrap64 (sextI v 12) = sgn v 2048 := by
  have a : (64 - clamp 12 1 64).toNat = 52 := by decide
  unfold sextI
  rw [a, show (2 : Int) ^ 52 = 4503599627370496 from rfl]
  simp only [IntKind.wrap_u64]
  unfold sgn wrap64
  split <;> omega
theorem sI_13 {v : Int} (h0 : 0 ≤ v) (h1 : v < 8192) : wrap64 (sextI v 13) = sgn v 4096 := by
  have a : (64 - clamp 13 1 64).toNat = 51 := by decide
  unfold sextI
  rw [a, show (2 : Int) ^ 51 = 2251799813685248 from rfl]
  simp only [IntKind.wrap_u64]
  unfold sgn wrap64
  split <;> omega
theorem sI_21 {v : Int} (h0 : 0 ≤ v) (h1 : v < 2097152) : wrap64 (sextI v 21) = sgn v 1048576 := by
  have a : (64 - clamp 21 1 64).toNat = 43 := by decide
  unfold sextI
  rw [a, show (2 : Int) ^ 43 = 8796093022208 from rfl]
  simp only [IntKind.wrap_u64]
  unfold sgn wrap64
  split <;> omega
theorem sI_32 {v : Int} (h0 : 0 ≤ v) (h1 : v < 4294967296) : wrap64 (sextI v 32) = sgn v 2147483648 := by
  have a : (64 - clamp 32 1 64).toNat = 32 := by decide
  unfold sextI
  rw [a, show (2 : Int) ^ 32 = 4294967296 from rfl]
  simp only [IntKind.wrap_u64]
  unfold sgn wrap64
  split <;> omega
theorem signed_any (v n : Int) (w : World) :
    Calls Tryd.prog 70 #[.int .u64 v, .int .i64 n] w fun e w' => e = .returned (.int .i64 (wrap64 (sextI v n))) ∧ w' = w := by
  go_enter Tryd.func70, Tryd.ntmps70
  go_wp2_with (go_at_call 77; refine (sext_any _ _ _).mono ?_; rintro e w' ⟨rfl, rfl⟩)
  go_ret
  exact ⟨rfl, rfl⟩
set_option maxHeartbeats 1000000 in
theorem near_any (v : Int) (hv0 : 0 ≤ v) (hv1 : v < 4294967296) (w : World) :
    Calls Tryd.prog 58 #[.int .u64 v] w fun e w' => e = .returned (.int .i64 (gI v)) ∧ w' = w := by
  unfold gI
  have e20_12 := bI_20_12 hv0 hv1
  have s0 := sI_12 (v := v / 1048576) (by omega) (by omega)
  go_enter Tryd.func58, Tryd.ntmps58
  go_wp2_with (first | (go_at_call 40; refine (bits_any _ _ _ _).mono ?_; rintro e w' ⟨rfl, rfl⟩) | (go_at_call 70; refine (signed_any _ _ _).mono ?_; rintro e w' ⟨rfl, rfl⟩))
  go_ret
  exact ⟨rfl, rfl⟩
set_option maxHeartbeats 1000000 in
theorem store_any (v : Int) (hv0 : 0 ≤ v) (hv1 : v < 4294967296) (w : World) :
    Calls Tryd.prog 57 #[.int .u64 v] w fun e w' => e = .returned (.int .i64 (gS v)) ∧ w' = w := by
  unfold gS
  have e25_7 := bI_25_7 hv0 hv1
  have e7_5 := bI_7_5 hv0 hv1
  have o0 : bits .or .u64 (v / 33554432 * 32) (v / 128 % 32) = v / 33554432 * 32 + v / 128 % 32 := bits_join .u64 64 (by decide) wraps_u64 5 _ _ (by omega) (by omega) (by omega) (by omega) (by omega) (by omega)
  have s0 := sI_12 (v := v / 33554432 * 32 + v / 128 % 32) (by omega) (by omega)
  go_enter Tryd.func57, Tryd.ntmps57
  go_wp2_with (first | (go_at_call 40; refine (bits_any _ _ _ _).mono ?_; rintro e w' ⟨rfl, rfl⟩) | (go_at_call 70; refine (signed_any _ _ _).mono ?_; rintro e w' ⟨rfl, rfl⟩))
  go_ret
  exact ⟨rfl, rfl⟩
set_option maxHeartbeats 1000000 in
theorem branch_any (v : Int) (hv0 : 0 ≤ v) (hv1 : v < 4294967296) (w : World) :
    Calls Tryd.prog 56 #[.int .u64 v] w fun e w' => e = .returned (.int .i64 (gB v)) ∧ w' = w := by
  unfold gB
  have e31_1 := bI_31_1 hv0 hv1
  have e7_1 := bI_7_1 hv0 hv1
  have e25_6 := bI_25_6 hv0 hv1
  have e8_4 := bI_8_4 hv0 hv1
  have o0 : bits .or .u64 (v / 2147483648 * 4096) (v / 128 % 2 * 2048) = v / 2147483648 * 4096 + v / 128 % 2 * 2048 := bits_join .u64 64 (by decide) wraps_u64 12 _ _ (by omega) (by omega) (by omega) (by omega) (by omega) (by omega)
  have o1 : bits .or .u64 (v / 2147483648 * 4096 + v / 128 % 2 * 2048) (v / 33554432 % 64 * 32) = v / 2147483648 * 4096 + v / 128 % 2 * 2048 + v / 33554432 % 64 * 32 := bits_join .u64 64 (by decide) wraps_u64 11 _ _ (by omega) (by omega) (by omega) (by omega) (by omega) (by omega)
  have o2 : bits .or .u64 (v / 2147483648 * 4096 + v / 128 % 2 * 2048 + v / 33554432 % 64 * 32) (v / 256 % 16 * 2) = v / 2147483648 * 4096 + v / 128 % 2 * 2048 + v / 33554432 % 64 * 32 + v / 256 % 16 * 2 := bits_join .u64 64 (by decide) wraps_u64 5 _ _ (by omega) (by omega) (by omega) (by omega) (by omega) (by omega)
  have s0 := sI_13 (v := v / 2147483648 * 4096 + v / 128 % 2 * 2048 + v / 33554432 % 64 * 32 + v / 256 % 16 * 2) (by omega) (by omega)
  go_enter Tryd.func56, Tryd.ntmps56
  go_wp2_with (first | (go_at_call 40; refine (bits_any _ _ _ _).mono ?_; rintro e w' ⟨rfl, rfl⟩) | (go_at_call 70; refine (signed_any _ _ _).mono ?_; rintro e w' ⟨rfl, rfl⟩))
  go_ret
  exact ⟨rfl, rfl⟩
set_option maxHeartbeats 1000000 in
theorem upper_any (v : Int) (hv0 : 0 ≤ v) (hv1 : v < 4294967296) (w : World) :
    Calls Tryd.prog 54 #[.int .u64 v] w fun e w' => e = .returned (.int .i64 (gU v)) ∧ w' = w := by
  unfold gU
  have e12_20 := bI_12_20 hv0 hv1
  have s0 := sI_32 (v := v / 4096 * 4096) (by omega) (by omega)
  go_enter Tryd.func54, Tryd.ntmps54
  go_wp2_with (first | (go_at_call 40; refine (bits_any _ _ _ _).mono ?_; rintro e w' ⟨rfl, rfl⟩) | (go_at_call 70; refine (signed_any _ _ _).mono ?_; rintro e w' ⟨rfl, rfl⟩))
  go_ret
  exact ⟨rfl, rfl⟩
set_option maxHeartbeats 1000000 in
theorem jump_any (v : Int) (hv0 : 0 ≤ v) (hv1 : v < 4294967296) (w : World) :
    Calls Tryd.prog 55 #[.int .u64 v] w fun e w' => e = .returned (.int .i64 (gJ v)) ∧ w' = w := by
  unfold gJ
  have e31_1 := bI_31_1 hv0 hv1
  have e12_8 := bI_12_8 hv0 hv1
  have e20_1 := bI_20_1 hv0 hv1
  have e21_10 := bI_21_10 hv0 hv1
  have o0 : bits .or .u64 (v / 2147483648 * 1048576) (v / 4096 % 256 * 4096) = v / 2147483648 * 1048576 + v / 4096 % 256 * 4096 := bits_join .u64 64 (by decide) wraps_u64 20 _ _ (by omega) (by omega) (by omega) (by omega) (by omega) (by omega)
  have o1 : bits .or .u64 (v / 2147483648 * 1048576 + v / 4096 % 256 * 4096) (v / 1048576 % 2 * 2048) = v / 2147483648 * 1048576 + v / 4096 % 256 * 4096 + v / 1048576 % 2 * 2048 := bits_join .u64 64 (by decide) wraps_u64 12 _ _ (by omega) (by omega) (by omega) (by omega) (by omega) (by omega)
  have o2 : bits .or .u64 (v / 2147483648 * 1048576 + v / 4096 % 256 * 4096 + v / 1048576 % 2 * 2048) (v / 2097152 % 1024 * 2) = v / 2147483648 * 1048576 + v / 4096 % 256 * 4096 + v / 1048576 % 2 * 2048 + v / 2097152 % 1024 * 2 := bits_join .u64 64 (by decide) wraps_u64 11 _ _ (by omega) (by omega) (by omega) (by omega) (by omega) (by omega)
  have s0 := sI_21 (v := v / 2147483648 * 1048576 + v / 4096 % 256 * 4096 + v / 1048576 % 2 * 2048 + v / 2097152 % 1024 * 2) (by omega) (by omega)
  go_enter Tryd.func55, Tryd.ntmps55
  go_wp2_with (first | (go_at_call 40; refine (bits_any _ _ _ _).mono ?_; rintro e w' ⟨rfl, rfl⟩) | (go_at_call 70; refine (signed_any _ _ _).mono ?_; rintro e w' ⟨rfl, rfl⟩))
  go_ret
  exact ⟨rfl, rfl⟩
end Go.Proofs.YtdogjmimjjmmaaaDoor
