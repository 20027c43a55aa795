/-
  What statement TwoBoth asks: walked for every argument.
-/
import Derived.Test.YtpplclenokfpeaaDoorTwoFace
import Derived.Test.YtpplclenokfpeaaDoorBothMath
import Derived.Deep.Cut
import Derived.Deep.RegionHeld3
namespace Go.Proofs.YtpplclenokfpeaaDoor
open Go.RowKit
theorem xor_top {a : Int} (a0 : 0 ≤ a) (a1 : a < 32768) : bits .xor .u64 a 32768 = a + 32768 := by
  obtain ⟨A, rfl⟩ := Int.eq_ofNat_of_zero_le a0
  have hA : A < 2 ^ 15 := by omega
  have h : A ^^^ 2 ^ 15 = 2 ^ 15 + A := by
    apply Nat.eq_of_testBit_eq
    intro i
    rw [Nat.testBit_xor, Nat.testBit_two_pow]
    rcases Nat.lt_trichotomy i 15 with hi | rfl | hi
    · rw [Nat.testBit_two_pow_add_gt hi, decide_eq_false (by omega), Bool.xor_false]
    · rw [Nat.testBit_two_pow_add_eq, Nat.testBit_lt_two_pow hA, decide_eq_true rfl]; rfl
    · have h1 : A < 2 ^ i := Nat.lt_of_lt_of_le hA (Nat.pow_le_pow_right (by omega) (by omega))
      have h2 : 2 ^ 15 + A < 2 ^ i := Nat.lt_of_lt_of_le (show 2 ^ 15 + A < 2 ^ 16 by omega) (Nat.pow_le_pow_right (by omega) (by omega))
      rw [Nat.testBit_lt_two_pow h1, Nat.testBit_lt_two_pow h2, decide_eq_false (by omega)]; rfl
  have e : ((32768 : Int)) = ((2 ^ 15 : Nat) : Int) := by decide
  rw [e, bits_xor, BitVec.toNat_xor, BitVec.ofInt_natCast, BitVec.ofInt_natCast, BitVec.toNat_ofNat, BitVec.toNat_ofNat, Nat.mod_eq_of_lt (by omega), Nat.mod_eq_of_lt (by omega), h]
  omega
set_option maxRecDepth 100000 in
set_option maxHeartbeats 8000000 in
theorem thand_any (pg gu ho at_ k : Int) (pg0 : 0 ≤ pg) (_pg1 : pg ≤ 255) (gu0 : 0 ≤ gu) (_gu1 : gu ≤ 255) (ho0 : 0 ≤ ho) (_ho1 : ho ≤ 255) (at0 : 0 ≤ at_) (at1 : at_ ≤ 255) (k0 : 0 ≤ k) (_k1 : k ≤ 255) {W : World} (hT : Tab12 W) :
    Calls Tryd.prog 6 #[.int .u8 pg, .int .u8 gu, .int .u8 ho, .int .u8 at_, .int .u8 k] W fun e w' => e = .returned (.bool true) ∧ Kept W w' := by
  obtain ⟨P, hP⟩ : ∃ P, pg % 16 = P := ⟨_, rfl⟩
  obtain ⟨G, hG⟩ : ∃ G, gu % 16 = G := ⟨_, rfl⟩
  obtain ⟨H, hH⟩ : ∃ H, ho % 128 = H := ⟨_, rfl⟩
  have tP : pg.tmod 16 = P := by rw [Int.tmod_eq_emod_of_nonneg pg0, hP]
  have tG : gu.tmod 16 = G := by rw [Int.tmod_eq_emod_of_nonneg gu0, hG]
  have tH : ho.tmod 128 = H := by rw [Int.tmod_eq_emod_of_nonneg ho0, hH]
  have P0 : 0 ≤ P := by omega
  have P1 : P < 16 := by omega
  have G0 : 0 ≤ G := by omega
  have G1 : G < 16 := by omega
  have H0 : 0 ≤ H := by omega
  have H1 : H < 128 := by omega
  have hk3 : k % 3 = 0 ∨ k % 3 = 1 ∨ k % 3 = 2 := by omega
  have ek : k.tmod 3 = k % 3 := Int.tmod_eq_emod_of_nonneg k0
  have ew : IntKind.i64.wrap (k % 3) = k % 3 := by rw [IntKind.wrap_i64]; omega
  clear hP hG hH
  go_enter Tryd.func6, Tryd.ntmps6
  go_wp2_with fail
  refine (known12_any hT (Only.refl _ W)).mono ?_
  rintro e w1 ⟨rfl, k1⟩
  go_wp2_with fail
  refine (new_from k1).mono ?_
  rintro e w2 ⟨p, q, rfl, s2⟩
  go_wp2_with fail
  refine (rmake_any _ _ _).mono ?_
  rintro e w3 ⟨rfl, rfl⟩
  go_wp2_with fail
  refine (mwrite_any 256 8 (makI 2 1) (by unfold U; omega) _ p q _ s2.m).mono ?_
  rintro e w3 ⟨rfl, m3, g3⟩
  have s3 : St W w3 p q (ownM (bothF G H) 0) := ⟨m3, s2.k.new g3 (fun i hi => by rw [hi]; exact s2.hq), s2.hp, s2.hq⟩
  clear m3 g3 s2 k1
  go_wp2_with fail
  clear tP tG tH
  go_loopw [15] (fun i ws => ∃ j : Nat, j ≤ 16 ∧ i = .int .i64 (j : Int) ∧ St W ws p q (ownM (bothF G H) j)) (fun i _ => 16 - (intOf i).toNat)
  case atStart => exact ⟨0, by omega, rfl, s3⟩
  case round =>
    obtain ⟨j, hj, rfl, sj⟩ := hrel
    clear s3
    by_cases hlt : j < 16
    · have hkeep : j < 16 := hlt
      have hlt' : (j : Int) < 16 := by omega
      have hj0 : (0 : Int) ≤ (j : Int) := by omega
      have hU : U (512 + 8 * (j : Int)) := by unfold U; omega
      have hF : bothF G H j % 128 = bothF G H j := by
        unfold bothF
        split <;> omega
      by_cases e1 : (j : Int) = G
      · subst e1
        by_cases e2 : 1 < (j : Int)
        · have e3 : bothF (j : Int) H j = H := by unfold bothF; rw [if_pos ⟨rfl, e2⟩]
          go_wp2_with fail
          refine (rmake_any _ _ _).mono ?_
          rintro e w4 ⟨rfl, rfl⟩
          go_wp2_with fail
          refine (mwrite_any (512 + 8 * (j : Int)) 8 (makI (H) 223) hU _ p q _ sj.m).mono ?_
          rintro e w4 ⟨rfl, m4, g4⟩
          have hs : wrZ (ownM (bothF (j : Int) H) j) (512 + 8 * (j : Int)) 8 (makI (H) 223) = ownM (bothF (j : Int) H) (j + 1) := by
            show _ = wrZ (ownM (bothF (j : Int) H) j) (512 + 8 * (j : Int)) 8 (makI ((bothF (j : Int) H) j % 128) 223)
            rw [hF, e3]
          rw [hs] at m4
          have s4 : St W w4 p q (ownM (bothF (j : Int) H) (j + 1)) := ⟨m4, sj.k.new g4 (fun i hi => by rw [hi]; exact sj.hq), sj.hp, sj.hq⟩
          clear m4 g4 sj e3 hF hs
          go_wp2_with fail
          have hk2 : j < 16 := hkeep
          exact ⟨⟨j + 1, by omega, by go_num, s4⟩, by simp [intOf]; omega⟩
        · have e3 : bothF (j : Int) H j = 32 + j := by unfold bothF; rw [if_neg (by omega)]
          go_wp2_with fail
          refine (rmake_any _ _ _).mono ?_
          rintro e w4 ⟨rfl, rfl⟩
          go_wp2_with fail
          refine (mwrite_any (512 + 8 * (j : Int)) 8 (makI (32 + (j : Int)) 223) hU _ p q _ sj.m).mono ?_
          rintro e w4 ⟨rfl, m4, g4⟩
          have hs : wrZ (ownM (bothF (j : Int) H) j) (512 + 8 * (j : Int)) 8 (makI (32 + (j : Int)) 223) = ownM (bothF (j : Int) H) (j + 1) := by
            show _ = wrZ (ownM (bothF (j : Int) H) j) (512 + 8 * (j : Int)) 8 (makI ((bothF (j : Int) H) j % 128) 223)
            rw [hF, e3]
          rw [hs] at m4
          have s4 : St W w4 p q (ownM (bothF (j : Int) H) (j + 1)) := ⟨m4, sj.k.new g4 (fun i hi => by rw [hi]; exact sj.hq), sj.hp, sj.hq⟩
          clear m4 g4 sj e3 hF hs
          go_wp2_with fail
          have hk2 : j < 16 := hkeep
          exact ⟨⟨j + 1, by omega, by go_num, s4⟩, by simp [intOf]; omega⟩
      · have e3 : bothF G H j = 32 + j := by unfold bothF; rw [if_neg (by omega)]
        go_wp2_with fail
        refine (rmake_any _ _ _).mono ?_
        rintro e w4 ⟨rfl, rfl⟩
        go_wp2_with fail
        refine (mwrite_any (512 + 8 * (j : Int)) 8 (makI (32 + (j : Int)) 223) hU _ p q _ sj.m).mono ?_
        rintro e w4 ⟨rfl, m4, g4⟩
        have hs : wrZ (ownM (bothF G H) j) (512 + 8 * (j : Int)) 8 (makI (32 + (j : Int)) 223) = ownM (bothF G H) (j + 1) := by
          show _ = wrZ (ownM (bothF G H) j) (512 + 8 * (j : Int)) 8 (makI ((bothF G H) j % 128) 223)
          rw [hF, e3]
        rw [hs] at m4
        have s4 : St W w4 p q (ownM (bothF G H) (j + 1)) := ⟨m4, sj.k.new g4 (fun i hi => by rw [hi]; exact sj.hq), sj.hp, sj.hq⟩
        clear m4 g4 sj e3 hF hs
        go_wp2_with fail
        have hk2 : j < 16 := hkeep
        exact ⟨⟨j + 1, by omega, by go_num, s4⟩, by simp [intOf]; omega⟩
    · obtain rfl : j = 16 := by omega
      have hways : G < 2 ∨ (2 ≤ G ∧ H < 3) ∨ (2 ≤ G ∧ H = 32) ∨ (2 ≤ G ∧ H = 33) ∨ (2 ≤ G ∧ 3 ≤ H ∧ ¬ H = 32 ∧ ¬ H = 33) := by omega
      rcases hways with g0 | ⟨g0, h0⟩ | ⟨g0, rfl⟩ | ⟨g0, rfl⟩ | ⟨g0, h0, n1, n2⟩
      iterate 4
        · go_wp2_with fail
          go_ret
          exact ⟨rfl, sj.k⟩
      have hU : U (8448 + 8 * P) := by unfold U; omega
      have b1 : (H == 32) = false := beq_eq_false_iff_ne.2 n1
      have b2 : (H == 33) = false := beq_eq_false_iff_ne.2 n2
      go_wp2_with fail
      refine (rmake_any _ _ _).mono ?_
      rintro e w4 ⟨rfl, rfl⟩
      go_wp2_with fail
      refine (mwrite_any 8192 8 (makI 1 1) (by unfold U; omega) _ p q _ sj.m).mono ?_
      rintro e w4 ⟨rfl, m4, g4⟩
      go_wp2_with fail
      refine (rmake_any _ _ _).mono ?_
      rintro e w5 ⟨rfl, rfl⟩
      go_wp2_with fail
      refine (mwrite_any (8448 + 8 * P) 8 (makI G 207) hU _ p q _ m4).mono ?_
      rintro e w5 ⟨rfl, m5, g5⟩
      have s5 : St W w5 p q (twoM G H P) := ⟨m5, sj.k.new (g4.trans g5) (fun i hi => by rw [hi]; exact sj.hq), sj.hp, sj.hq⟩
      clear m4 g4 m5 g5 sj
      have h1 := st_new w5 ownS0
      have s6 := s5.kept ((Only.refl _ w5).alloc (.cells (rowOf 65 (stF ownS0)) 27))
      have hsb := s5.k.size
      have hpq := s5.m.lt
      clear s5
      go_upto_region 18 with (first | refine wpList_built rfl 27 _ rfl (rowOf 65 (stF ownS0)) (by kernel_rfl) ?_ | refine wpList_alloc_is rfl 27 rfl (rowOf 65 zF12) st_zero12 ?_ | (refine wpList_store_is rfl 27 _ _ rfl rfl rfl (row_alloc _ 65 zF12 _) st_size (fun i _ => stF_one _ i) ?_; rw [World.setRow_alloc_new]))
      simp only [Act.put]
      generalize (w5.alloc (.cells (rowOf 65 (stF ownS0)) 27)) = w6 at h1 s6 ⊢
      generalize w5.heap.size = sb at h1 hsb hpq ⊢
      have l1 := World.rowIs.lt h1
      have v5 := h1.cell (i := 56) (by omega)
      have u5 := h1.frozen 56
      have h6 : StAt (w6.setCell ⟨sb, 56, none⟩ (.int .u64 9223372036855234561)) sb (ownS0.setC 21 9223372036855234561) := h1.set (i := 21) (by omega) 9223372036855234561
      have o6 := Only.setCell (Only.refl (fun i => i = sb) w6) (x := ⟨sb, 56, none⟩) rfl (.int .u64 9223372036855234561)
      have v6 := h6.cell (i := 63) (by omega)
      have u6 := h6.frozen 63
      have h7 : StAt ((w6.setCell ⟨sb, 56, none⟩ (.int .u64 9223372036855234561)).setCell ⟨sb, 63, none⟩ (.int .u64 9223372036855365632)) sb bothS := h6.set (i := 28) (by omega) 9223372036855365632
      have o7 := o6.setCell (x := ⟨sb, 63, none⟩) rfl (.int .u64 9223372036855365632)
      have s7 : St W ((w6.setCell ⟨sb, 56, none⟩ (.int .u64 9223372036855234561)).setCell ⟨sb, 63, none⟩ (.int .u64 9223372036855365632)) p q (twoM G H P) := ⟨s6.m.carry o7 (by omega) (by omega), s6.k.new o7 fun i hi => by omega, s6.hp, s6.hq⟩
      go_upto_region 20 with fail
      clear h1 s6 v5 u5 o6 v6 u6 h6 o7
      generalize (w6.setCell ⟨sb, 56, none⟩ (.int .u64 9223372036855234561)).setCell ⟨sb, 63, none⟩ (.int .u64 9223372036855365632) = w7 at h7 s7 ⊢
      have l7 := World.rowIs.lt h7
      have hxU : U (P * 256 + at_) := by unfold U; omega
      have hyU : U (P * 256 + at_ + 32768) := by unfold U; omega
      have hx := two_tr P0 P1 g0 G1 H0 H1 at_ ⟨at0, by omega⟩ (k % 3) hk3
      have hy := two_tr8 (h := H) P0 P1 g0 at_ ⟨at0, by omega⟩ (k % 3)
      have hxor : bits .xor .u64 (P * 256 + at_) 32768 = P * 256 + at_ + 32768 := xor_top (by omega) (by omega)
      have hwant : (⟨true, true, P, 9, 7, H, 207, 223, G⟩ : EntM) = wantE P G H := rfl
      rw [hwant] at hx
      go_upto_region 22 with (first | (refine wpList_load_is (by rfl) 27 _ rfl rfl h7 _ Tryd.underlying27 rfl st_size ?_) | (go_at_call 12; refine (ttr_any (hT.kept s7.k) s7.m bothS_ok (P * 256 + at_) (k % 3) 1 true hk3 hxU).mono ?_; rintro e w8 ⟨rfl, k8⟩; rw [hx]) | (refine wpList_alloc_go rfl 36 rfl (entA entNone).toArray ent_zero' ?_; intro eb8 w8a n8a k8a m8a e8a) | (refine wpList_alloc_go rfl 38 rfl (fltA fltNone).toArray flt_zero' ?_; intro fb8 w8b n8b k8b m8b f8b) | (refine wpList_store_go rfl 36 _ _ rfl eb8 (entA (wantE P G H)).toArray rfl rfl (k8b.block e8a id) (ent_size' _) ((ent_len _).trans (ent_len _).symm) (ent_ones' _) ?_; intro w8c o8c e8c) | (refine wpList_store_go rfl 38 _ _ rfl fb8 (fltA fltNone).toArray rfl rfl (o8c.block f8b (by omega)) (flt_size' _) ((flt_len _).trans (flt_len _).symm) (flt_ones' _) ?_; intro w8d o8d f8d))
      have kk : Kept w7 w8d := (((k8.then k8a).then k8b).new o8c fun i hi => by have := k8.size; omega).new o8d fun i hi => by have := k8.size; omega
      have h9 := st_kept h7 kk
      have s9 := s7.kept kk
      have e9 : Blk w8d eb8 _ _ := e8c.past o8d (by omega)
      clear h7 s7 k8 k8a k8b o8c o8d f8b e8a e8c f8d kk
      go_upto_region 23 with (first | (refine wpList_built rfl 36 _ rfl (entA (wantE P G H)).toArray (by kernel_rfl) ?_) | (refine wpList_alloc_go rfl 36 rfl (entA entNone).toArray ent_zero' ?_; intro eb9 w9a n9a k9a m9a e9a) | (refine wpList_store_go rfl 36 _ _ rfl eb9 (entA (wantE P G H)).toArray rfl rfl e9a (ent_size' _) ((ent_len _).trans (ent_len _).symm) (ent_ones' _) ?_; intro w9c o9c e9c))
      have kk : Kept w8d w9c := k9a.new o9c fun i hi => by omega
      have h10 := st_kept h9 kk
      have s10 := s9.kept kk
      have e10 := e9.kept kk
      clear h9 s9 e9 kk k9a o9c e9a
      go_upto_region 24 with (first | (refine wpList_load_is (by rfl) 27 _ rfl rfl h10 _ Tryd.underlying27 rfl st_size ?_) | (go_at_call 12; refine (ttr_any (hT.kept s10.k) s10.m bothS_ok (P * 256 + at_ + 32768) (k % 3) 1 true hk3 hyU).mono ?_; rintro e w10 ⟨rfl, k10⟩; rw [hy]) | (refine wpList_alloc_go rfl 36 rfl (entA entNone).toArray ent_zero' ?_; intro eb10 w10a n10a k10a m10a e10a) | (refine wpList_alloc_go rfl 38 rfl (fltA fltNone).toArray flt_zero' ?_; intro fb10 w10b n10b k10b m10b f10b) | (refine wpList_store_go rfl 36 _ _ rfl eb10 (entA entNone).toArray rfl rfl (k10b.block e10a id) (ent_size' _) ((ent_len _).trans (ent_len _).symm) (ent_ones' _) ?_; intro w10c o10c e10c) | (refine wpList_store_go rfl 38 _ _ rfl fb10 (fltA ⟨pageC (k % 3), P * 256 + at_ + 32768, 0, true⟩).toArray rfl rfl (o10c.block f10b (by omega)) (flt_size' _) ((flt_len _).trans (flt_len _).symm) (flt_ones' _) ?_; intro w10d o10d f10d))
      have kk : Kept w9c w10d := (((k10.then k10a).then k10b).new o10c fun i hi => by have := k10.size; omega).new o10d fun i hi => by have := k10.size; omega
      have e11 := e10.kept kk
      have e12 := e9c.kept kk
      have c1 : _ = some (Value.int .u64 (P * 256 + at_ + 32768)) := f10d.cell 1
      have c2 : _ = some (Value.int .u64 0) := f10d.cell 2
      have hk9 : Kept W w10d := s10.k.then kk
      have hq := eq_ent (wantE P G H)
      clear h10 s10 e10 k10 k10a k10b o10c o10d f10b e10a e10c f10d kk e9c hx hy
      go_wp2_with (first | (refine wpList_load_blk (by rfl) 36 _ rfl eb8 rfl e11 _ Tryd.underlying36 rfl (ent_size' _) ?_) | (refine wpList_load_blk (by rfl) 36 _ rfl eb9 rfl e12 _ Tryd.underlying36 rfl (ent_size' _) ?_))
      go_ret
      exact ⟨rfl, hk9⟩
end Go.Proofs.YtpplclenokfpeaaDoor
