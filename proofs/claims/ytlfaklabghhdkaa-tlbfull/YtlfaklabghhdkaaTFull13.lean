/-
  What statement TlbFull asks: walked over the contracts.
-/
import Derived.Test.YtlfaklabghhdkaaTlFace
import Derived.Test.YtlfaklabghhdkaaFullMath
import Derived.Deep.RegionHeld3
namespace Go.Proofs.Ytlfaklabghhdkaa
open Go.RowKit
theorem mod16 (pick : Int) (h0 : -9223372036854775808 ≤ pick) (h1 : pick ≤ 9223372036854775807) : (pick.tmod 16 + 16).tmod 16 = pick % 16 := by
  by_cases hp : 0 ≤ pick
  · rw [Int.tmod_eq_emod_of_nonneg hp, Int.tmod_eq_emod_of_nonneg (by omega)]
    omega
  · obtain ⟨m, rfl⟩ : ∃ m : Int, pick = -m := ⟨-pick, by omega⟩
    rw [Int.neg_tmod, Int.tmod_eq_emod_of_nonneg (show 0 ≤ m by omega), Int.tmod_eq_emod_of_nonneg (by omega)]
    omega
/-- What is no entry. -/
def nvE : EntM := ⟨false, false, 50, 0, 0, 0, 0, 0, 0⟩
set_option maxRecDepth 100000 in
set_option maxHeartbeats 8000000 in
theorem tfull_any (pick : Int) (h0 : -9223372036854775808 ≤ pick) (h1 : pick ≤ 9223372036854775807) {W : World} (hT : Tab13 W) :
    Calls Try.prog 6 #[.int .i64 pick] W fun e w' => e = .returned (.bool true) ∧ Kept W w' := by
  go_enter Try.func6, Try.ntmps6
  go_wp2_with fail
  refine (known13_any hT (Only.refl _ W)).mono ?_
  rintro e w1 ⟨rfl, k1⟩
  go_wp2_with fail
  refine (tnew_any (hT.kept k1)).mono ?_
  rintro e w2 ⟨b, rfl, m2, hb2, k2⟩
  have s2 : St13 W w2 b (fstT (fun j => pgE j) 0) := ⟨by rw [fst_zero]; exact m2, k1.then k2, Nat.le_trans k1.size hb2⟩
  clear m2 hb2 k2 k1
  go_wp2_with fail
  go_loopw [4] (fun i wr => ∃ j : Nat, j ≤ 16 ∧ i = .int .i64 (j : Int) ∧ St13 W wr b (fstT (fun j => pgE j) j)) (fun i _ => 16 - (intOf i).toNat)
  case atStart => exact ⟨0, by omega, rfl, s2⟩
  case round =>
    obtain ⟨j, hj, rfl, sj⟩ := hrel
    clear s2
    by_cases hlt : j < 16
    · have hlt' : (j : Int) < 16 := by omega
      have hj0 : (0 : Int) ≤ (j : Int) := by omega
      have hkeep : j < 16 := hlt
      go_wp2_with (first | (refine wpList_built rfl 28 _ rfl (entA (pgE j)).toArray (by kernel_rfl) ?_))
      refine (tfill_any (hT.kept sj.k) sj.m (pgE j) 7).mono ?_
      rintro r w4 ⟨rfl, m4, g4⟩
      have s4 := sj.turn g4 m4
      rw [full_next j hkeep] at s4
      clear sj m4 g4
      go_wp2_with fail
      exact ⟨⟨j + 1, by omega, by go_num, s4⟩, by simp [intOf]; omega⟩
    · obtain rfl : j = 16 := by omega
      go_wp2_with fail
      refine (tfill_any (hT.kept sj.k) sj.m (pgE 100) pick).mono ?_
      rintro r w4 ⟨rfl, m4, g4⟩
      have s4 := sj.turn g4 m4
      rw [full_last] at s4
      have hm := mod16 pick h0 h1
      have q0 : -16 < pick.tmod 16 := by have := Int.tmod_add_mul_tdiv pick 16; have := Int.lt_tmod_of_pos pick (show (0 : Int) < 16 by decide); omega
      have q1 : pick.tmod 16 < 16 := Int.tmod_lt_of_pos _ (by decide)
      have ew : IntKind.i64.wrap (pick.tmod 16 + 16) = pick.tmod 16 + 16 := by rw [IntKind.wrap_i64]; omega
      clear sj m4 g4
      go_wp2_with fail
      refine (tall_any (hT.kept s4.k) s4.m).mono ?_
      rintro r w5 ⟨v5, rfl, ow, k5⟩
      have s5 := s4.kept k5
      have hl := full_len pick
      have hrow : ∀ i, i < 16 → ∃ g cap, v5 = .slice (some ⟨g, 0, none⟩) 16 cap ∧ w5.cell? ⟨g, i * 9 + 2, none⟩ = some (.int .i64 (fullT pick i).page) := by
        intro i hi
        have hi' : i < (allT (fullT pick)).length := by rw [hl]; exact hi
        obtain ⟨g, cap, e, _, hr⟩ := ow.range i hi'
        rw [full_get pick i hi hi'] at hr
        rw [hl] at e
        exact ⟨g, cap, e, hr 2 _ rfl⟩
      obtain ⟨q5, p5, rfl⟩ := ow.form
      rw [hl] at hrow ⊢
      clear s4 k5 ow
      go_wp2_with fail
      clear hm q0 q1 ew hl
      go_loopw [7] (fun i wr => ∃ j : Nat, j ≤ 16 ∧ i = .int .i64 (j : Int) ∧ Kept w5 wr) (fun i _ => 16 - (intOf i).toNat)
      case atStart => exact ⟨0, by omega, rfl, Only.refl _ _⟩
      case round =>
        obtain ⟨j, hj, rfl, hg⟩ := hrel
        by_cases hlt : j < 16
        · obtain ⟨g, cap, e5, c5⟩ := hrow j hlt
          obtain ⟨rfl, rfl⟩ : q5 = some ⟨g, 0, none⟩ ∧ p5 = cap := by simpa using e5
          have c6 := hg.cell c5
          rw [full_page pick j hlt] at c6
          have hlt' : (j : Int) < 16 := by omega
          have hj0 : (0 : Int) ≤ (j : Int) := by omega
          have hkeep : j < 16 := hlt
          clear hrow c5 e5
          by_cases he : (j : Int) = pick % 16
          · rw [if_pos he] at c6
            have hbe : ((j : Int) == pick % 16) = true := beq_iff_eq.2 he
            clear he
            go_wp2_with fail
            exact ⟨⟨j + 1, by omega, by go_num, hg⟩, by simp [intOf]; omega⟩
          · rw [if_neg he] at c6
            have hbe : ((j : Int) == pick % 16) = false := beq_eq_false_iff_ne.2 he
            clear he
            go_wp2_with fail
            exact ⟨⟨j + 1, by omega, by go_num, hg⟩, by simp [intOf]; omega⟩
        · obtain rfl : j = 16 := by omega
          have s6 := s5.kept hg
          clear s5 hrow hg
          go_wp2_with fail
          refine (tfill_any (hT.kept s6.k) s6.m nvE 0).mono ?_
          rintro r w7 ⟨rfl, m7, g7⟩
          have s7 : St13 W w7 b (fullT pick) := s6.turn g7 m7
          have hn := full_not pick
          clear s6 m7 g7
          obtain ⟨X, hX⟩ : ∃ X, lookT (fullT pick) 50 false 0 0 = X := ⟨_, rfl⟩
          go_upto_region 21 with (first | (go_at_call 16; refine (tlook_any (hT.kept s7.k) s7.m 50 false 0 0).mono ?_; rintro r w8 ⟨rfl, k8⟩; rw [hX, hn]) | (refine wpList_alloc_go rfl 28 rfl (entA entNone).toArray ent_zero' ?_; intro fb w9 n9 k9 m9 f9) | (refine wpList_store_go rfl 28 _ _ rfl fb (entA X).toArray rfl rfl f9 (ent_size' _) ((ent_len _).trans (ent_len _).symm) (ent_ones' _) ?_; intro w10 o10 f10))
          have kk : Kept w7 w10 := (k8.then k9).new o10 fun i hi => by have := k8.size; omega
          have kW := s7.k.then kk
          clear s7 kk k8 k9 o10 f9 f10 hn hX
          go_wp2_with fail
          go_ret
          exact ⟨rfl, kW⟩
end Go.Proofs.Ytlfaklabghhdkaa
