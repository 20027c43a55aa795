/-
  What statement WordParts asks, walked for every argument, in whatever order its last line is reckoned.
-/
import Derived.Test.YtnmlkhecjohepaaCuts
import Derived.Deep.RegionHeld3
namespace Go.Proofs.Ytnmlkhecjohepaa
open Go.RowKit
structure GG (a b : World) : Prop where
  g : Grown a b
theorem GG.drew {a b : World} (h : GG a b) : GG a b.drew := ⟨Grown.drew h.g⟩
theorem GG.trans {a b c : World} (h : GG a b) (k : GG b c) : GG a c := ⟨Grown.trans' h.g k.g⟩
set_option linter.unusedVariables false in
set_option maxHeartbeats 8000000 in
theorem parts_walk (v c n : Int) (h0 : 0 ≤ c) (h1 : c < 256) (h2 : 0 ≤ n) (h3 : n < 256) (w : World)
   (f1 : (bits .or .u64 (bitsI v 0 (c % 64)) (IntKind.u64.wrap (bitsI v (c % 64) (64 - c % 64) * 2 ^ (c % 64).toNat)) == v) = true)
   (f2 : (setI (setI 0 0 (c % 64) (bitsI v 0 (c % 64))) (c % 64) (64 - c % 64) (bitsI v (c % 64) (64 - c % 64)) == v) = true)
   (f3 : ((bytesI v (n % 9)).toList == ((bytesI v 8).extract 0 (n % 9).toNat).toList) = true)
   (f4 : (getI (bytesI v 8).data.toList 0 (n % 9) == bitsI v 0 (8 * (n % 9))) = true)
   (f5 : (getI (bytesI v 8).data.toList (n % 9) 8 == IntKind.u64.wrap (bitsI v (8 * mn (n % 9) 7) 64 * mn 1 (8 - n % 9))) = true)
   (hz0 : (0 : Int) ≤ n % 9) (hz : n % 9 ≤ ((bytesI v 8).size : Int)) :
    Calls Try.prog 6 #[.int .u64 v, .int .u8 c, .int .u8 n] w fun e w' => e = .returned (.bool true) ∧ Grown w w' := by
  have hc0 : 0 ≤ c % 64 := by omega
  have hc1 : c % 64 ≤ 63 := by omega
  have hmn := fun ts t k k' x y w => run_mn (P := Try.prog) (w := w) ts t k k' x y
  have hn8 : n % 9 ≤ 8 := by omega
  have e1 : IntKind.u64.wrap (c % 64) = c % 64 := by rw [IntKind.wrap_u64]; omega
  have e2 : IntKind.i64.wrap (64 - c % 64) = 64 - c % 64 := by rw [IntKind.wrap_i64]; omega
  have e3 : IntKind.i64.wrap (8 * (n % 9)) = 8 * (n % 9) := by rw [IntKind.wrap_i64]; omega
  have e4 : IntKind.i64.wrap (8 * mn (n % 9) 7) = 8 * mn (n % 9) 7 := by rw [IntKind.wrap_i64]; unfold mn; split <;> omega
  have e5 : IntKind.i64.wrap (8 - n % 9) = 8 - n % 9 := by rw [IntKind.wrap_i64]; omega
  have e6 : IntKind.u64.wrap (mn 1 (8 - n % 9)) = mn 1 (8 - n % 9) := by rw [IntKind.wrap_u64]; unfold mn; split <;> omega
  go_enter Try.func6, Try.ntmps6
  go_wp2_with fail
  refine (known_any _).mono ?_
  rintro e w1 ⟨rfl, hg1⟩
  replace hg1 : GG _ _ := ⟨hg1⟩
  go_wp2_with (first | (go_at_call 14; refine (bits_any _ _ _ _).mono ?_; rintro e w' ⟨rfl, rfl⟩))
  refine (bytes_any _ _ _).mono ?_
  rintro e w2 ⟨rfl, hg2⟩
  replace hg2 : GG _ _ := ⟨hg2⟩
  go_wp2_with fail
  go_region_held3 (fun _ => True) (trivial) (first | (go_at_call 14; refine (bits_any _ _ _ _).mono ?_; rintro e w' ⟨rfl, rfl⟩) | (go_at_call 16; refine (set_any _ _ _ _ _).mono ?_; rintro e w' ⟨rfl, rfl⟩) | (go_at_call 20; refine (bytes_any _ _ _).mono ?_; rintro e w3 ⟨rfl, hg3⟩; replace hg3 : GG _ _ := ⟨hg3⟩) | (go_at_call 18; refine (get_any _ _ _ ?_ _).mono ?_; (omega); rintro e w4 ⟨rfl, hg4⟩; replace hg4 : GG _ _ := ⟨hg4⟩))
  all_goals
    go_wp2
    go_ret
    exact ⟨rfl, GG.g (by repeat (first | assumption | refine GG.drew ?_ | refine GG.trans ?_ (by assumption)))⟩
theorem parts_any (v c n : Int) (hv : U v) (h0 : 0 ≤ c) (h1 : c < 256) (h2 : 0 ≤ n) (h3 : n < 256) (w : World) :
    Calls Try.prog 6 #[.int .u64 v, .int .u8 c, .int .u8 n] w fun e w' => e = .returned (.bool true) ∧ Grown w w' := by
  refine parts_walk v c n h0 h1 h2 h3 w ?_ ?_ ?_ ?_ ?_ (by omega) ?_
  · rw [parts1 hv _ (by omega) (by omega)]; simp
  · rw [parts2 hv _ (by omega) (by omega)]; simp
  · rw [← bytes_take v _ (by omega) (by omega)]; simp
  · rw [parts4 hv _ (by omega) (by omega)]; simp
  · rw [parts5 hv _ (by omega) (by omega)]; simp
  · rw [bytes_size, clamp_id 8 0 8 (by omega) (by omega)]; omega
end Go.Proofs.Ytnmlkhecjohepaa
