/-
  Widths and places beyond their bounds are held: what statement WordHeld asks, walked for every argument.
-/
import Derived.Test.YtnmlkhecjohepaaOrder
namespace Go.Proofs.Ytnmlkhecjohepaa
open Go.RowKit
def mn (x y : Int) : Int := if y < x then y else x
def mx (x y : Int) : Int := if x < y then y else x
theorem mn_eq (x y : Int) : mn x y = min x y := by unfold mn; split <;> omega
theorem mx_eq (x y : Int) : mx x y = max x y := by unfold mx; split <;> omega
theorem run_mn {P : Program} {w : World} (ts : Array TypeId) (t : TypeId) (k k' : IntKind) (x y : Int) : (Builtin.min_ ts t #[.int k x, .int k' y]).run P w = .ok (.int k (mn x y)) w := by
  unfold mn; simp only [run_min_int2]
theorem run_mx {P : Program} {w : World} (ts : Array TypeId) (t : TypeId) (k k' : IntKind) (x y : Int) : (Builtin.max_ ts t #[.int k x, .int k' y]).run P w = .ok (.int k (mx x y)) w := by
  unfold mx; simp only [run_max_int2, gt_iff_lt]

theorem clamp_mx (n b c : Int) (h : b ≤ c) : clamp n b c = mx b (mn n c) := by
  unfold clamp mx mn; split <;> split <;> (try split) <;> omega
theorem clamp_id (n b c : Int) (h1 : b ≤ n) (h2 : n ≤ c) : clamp n b c = n := by
  unfold clamp; split <;> split <;> omega
theorem clamp_clamp (n b c : Int) (h : b ≤ c) : clamp (clamp n b c) b c = clamp n b c :=
  clamp_id _ _ _ (clamp_bd n b c h).1 (clamp_bd n b c h).2
theorem lo_lo (lo : Int) : loI (loI lo) = loI lo := clamp_clamp _ _ _ (by omega)
theorem many_many (lo n : Int) : manyI (loI lo) (manyI lo n) = manyI lo n := by
  have h := lo_bd lo
  show clamp (clamp n 0 (64 - loI lo)) 0 (64 - loI (loI lo)) = _
  rw [lo_lo]
  exact clamp_clamp _ _ _ (by omega)
theorem bits_held (v lo n : Int) : bitsI v (loI lo) (manyI lo n) = bitsI v lo n := by
  unfold bitsI; rw [lo_lo, many_many]
theorem set_held (v lo n x : Int) : setI v (loI lo) (manyI lo n) x = setI v lo n x := by
  unfold setI placeI; rw [lo_lo, many_many]
theorem sext_held (v n : Int) : sextI v (clamp n 1 64) = sextI v n := by
  unfold sextI; rw [clamp_clamp _ _ _ (by omega)]
theorem zext_held (v n : Int) : zextI v (clamp n 1 64) = zextI v n := by
  unfold zextI; rw [clamp_clamp _ _ _ (by omega)]
theorem bytes_held (v n : Int) : bytesI v (clamp n 0 8) = bytesI v n := by
  unfold bytesI; rw [clamp_clamp _ _ _ (by omega)]
set_option maxHeartbeats 1000000 in
theorem held_any_law (v x lo n : Int) (w : World) :
    Calls Try.prog 7 #[.int .u64 v, .int .u64 x, .int .i64 lo, .int .i64 n] w fun e w' => e = .returned (.bool true) ∧ Grown w w' := by
  have hl := lo_bd lo
  have e1 : loI lo = mx 0 (mn lo 63) := clamp_mx _ _ _ (by omega)
  have e2 : manyI lo n = mx 0 (mn n (64 - loI lo)) := clamp_mx _ _ _ (by omega)
  have e3 : clamp n 1 64 = mx 1 (mn n 64) := clamp_mx _ _ _ (by omega)
  have e4 : clamp n 0 8 = mx 0 (mn n 8) := clamp_mx _ _ _ (by omega)
  have f1 : (bitsI v lo n == bitsI v (mx 0 (mn lo 63)) (mx 0 (mn n (64 - mx 0 (mn lo 63))))) = true := by
    rw [← e1, ← e2, bits_held]; simp
  have f2 : (setI v lo n x == setI v (mx 0 (mn lo 63)) (mx 0 (mn n (64 - mx 0 (mn lo 63)))) x) = true := by
    rw [← e1, ← e2, set_held]; simp
  have f3 : (sextI v n == sextI v (mx 1 (mn n 64))) = true := by rw [← e3, sext_held]; simp
  have f4 : (zextI v n == zextI v (mx 1 (mn n 64))) = true := by rw [← e3, zext_held]; simp
  have f5 : ((bytesI v n).toList == (bytesI v (mx 0 (mn n 8))).toList) = true := by rw [← e4, bytes_held]; simp
  have f6 : (getI [97, 98, 99] (-100) n == 0) = true := by
    have hb := clamp_bd n 0 8 (by omega)
    rw [get_zero _ _ _ (Or.inl (by omega))]; rfl
  rw [e1] at hl
  obtain ⟨hl0, hl1⟩ := hl
  clear e1 e2 e3 e4
  have hmn := fun ts t k k' x y w => run_mn (P := Try.prog) (w := w) ts t k k' x y
  have hmx := fun ts t k k' x y w => run_mx (P := Try.prog) (w := w) ts t k k' x y
  go_enter Try.func7, Try.ntmps7
  go_wp2_with (first | (go_at_call 9; refine (known_any _).mono ?_; rintro e w1 ⟨rfl, hg1⟩) | (go_at_call 14; refine (bits_any _ _ _ _).mono ?_; rintro e w' ⟨rfl, rfl⟩) | (go_at_call 16; refine (set_any _ _ _ _ _).mono ?_; rintro e w' ⟨rfl, rfl⟩) | (go_at_call 10; refine (sext_any _ _ _).mono ?_; rintro e w' ⟨rfl, rfl⟩) | (go_at_call 12; refine (zext_any _ _ _).mono ?_; rintro e w' ⟨rfl, rfl⟩))
  refine (bytes_any _ _ _).mono ?_
  rintro e w2 ⟨rfl, hg2⟩
  go_wp2_with fail
  refine (bytes_any _ _ _).mono ?_
  rintro e w3 ⟨rfl, hg3⟩
  go_wp2_with fail
  refine (get_any _ _ _ (by decide) _).mono ?_
  rintro e w4 ⟨rfl, hg4⟩
  go_wp2_with fail
  go_ret
  exact ⟨rfl, Grown.trans' hg1 (Grown.trans' hg2 (Grown.trans' hg3 hg4))⟩
end Go.Proofs.Ytnmlkhecjohepaa
