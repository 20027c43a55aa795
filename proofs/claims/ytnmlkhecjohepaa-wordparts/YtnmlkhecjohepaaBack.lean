/-
  A part put in is read again: what statement WordBack asks, walked for every argument.
-/
import Derived.Test.YtnmlkhecjohepaaBytes
namespace Go.Proofs.Ytnmlkhecjohepaa
open Go.RowKit
theorem u8_of_wf {a : Int} (h : (Lit.int .u8 a).wf = true) : 0 ≤ a ∧ a < 256 := by
  have e1 : IntKind.u8.min = 0 := by decide
  have e2 : IntKind.u8.max = 255 := by decide
  simp only [Lit.wf, e1, e2, Bool.and_eq_true, decide_eq_true_eq] at h
  omega
theorem i32_of_wf {a : Int} (h : (Lit.int .i32 a).wf = true) : -2147483648 ≤ a ∧ a ≤ 2147483647 := by
  have e1 : IntKind.i32.min = -2147483648 := by decide
  have e2 : IntKind.i32.max = 2147483647 := by decide
  simp only [Lit.wf, e1, e2, Bool.and_eq_true, decide_eq_true_eq] at h
  omega
theorem i64_of_wf {a : Int} (h : (Lit.int .i64 a).wf = true) : -9223372036854775808 ≤ a ∧ a ≤ 9223372036854775807 := by
  have e1 : IntKind.i64.min = -9223372036854775808 := by decide
  have e2 : IntKind.i64.max = 9223372036854775807 := by decide
  simp only [Lit.wf, e1, e2, Bool.and_eq_true, decide_eq_true_eq] at h
  omega
set_option maxHeartbeats 1000000 in
theorem back_any (v x lo n : Int) (hv : U v) (hx : U x) (h0 : 0 ≤ lo) (h1 : lo < 256) (h2 : 0 ≤ n) (h3 : n < 256) (w : World) :
    Calls Try.prog 4 #[.int .u64 v, .int .u64 x, .int .u8 lo, .int .u8 n] w fun e w' => e = .returned (.bool true) ∧ Grown w w' := by
  have hl0 : 0 ≤ lo % 64 := by omega
  have hl1 : lo % 64 ≤ 63 := by omega
  have hk0 : 0 ≤ n % (65 - lo % 64) := Int.emod_nonneg _ (by omega)
  have hk1 : n % (65 - lo % 64) < 65 - lo % 64 := Int.emod_lt_of_pos _ (by omega)
  have f1 : (bitsI (setI v (lo % 64) (n % (65 - lo % 64)) x) (lo % 64) (n % (65 - lo % 64)) == bitsI x 0 (n % (65 - lo % 64))) = true := by
    rw [back1 hv hx _ _ hl0 (by omega) hk0 (by omega)]; simp
  have f2 : (setI (setI v (lo % 64) (n % (65 - lo % 64)) x) (lo % 64) (n % (65 - lo % 64)) (bitsI v (lo % 64) (n % (65 - lo % 64))) == v) = true := by
    rw [back2 hv hx _ _ hl0 (by omega) hk0 (by omega)]; simp
  have f3 : (getI (bytesI v 8).data.toList 0 8 == v) = true := by rw [get_bytes_whole hv]; simp
  have f4 : (getI (bytesI v 8).data.toList (lo % 64 / 8) 1 == bitsI v (lo % 64 / 8 * 8) 8) = true := by rw [get_byte hv _ (by omega) (by omega)]; simp
  have f5 : (bitsI v 0 64 == v) = true := by rw [bits_whole hv]; simp
  go_enter Try.func4, Try.ntmps4
  go_wp2_with fail
  refine (known_any _).mono ?_
  rintro e w1 ⟨rfl, hg1⟩
  go_wp2_with (first | (go_at_call 14; refine (bits_any _ _ _ _).mono ?_; rintro e w' ⟨rfl, rfl⟩) | (go_at_call 16; refine (set_any _ _ _ _ _).mono ?_; rintro e w' ⟨rfl, rfl⟩) )
  refine (bytes_any _ _ _).mono ?_
  rintro e w2 ⟨rfl, hg2⟩
  go_wp2_with fail
  refine (get_any _ _ _ (by decide) _).mono ?_
  rintro e w3 ⟨rfl, hg3⟩
  go_wp2_with fail
  refine (bytes_any _ _ _).mono ?_
  rintro e w4 ⟨rfl, hg4⟩
  go_wp2_with fail
  refine (get_any _ _ _ (by omega) _).mono ?_
  rintro e w5 ⟨rfl, hg5⟩
  go_wp2_with (first | (go_at_call 14; refine (bits_any _ _ _ _).mono ?_; rintro e w' ⟨rfl, rfl⟩) )
  go_ret
  exact ⟨rfl, Grown.trans' hg1 (Grown.trans' hg2 (Grown.trans' hg3 (Grown.trans' hg4 hg5)))⟩
end Go.Proofs.Ytnmlkhecjohepaa
