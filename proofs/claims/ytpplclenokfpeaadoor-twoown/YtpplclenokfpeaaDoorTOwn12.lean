/-
  What statement TwoOwn asks: walked for every argument.
-/
import Derived.Test.YtpplclenokfpeaaDoorTwoFace
import Derived.Test.YtpplclenokfpeaaDoorOwnMath
import Derived.Test.YtpplclenokfpeaaDoorOBytes
import Derived.Deep.Cut
import Derived.Deep.RegionHeld3
namespace Go.Proofs.YtpplclenokfpeaaDoor
open Go.RowKit
set_option maxRecDepth 100000 in
set_option maxHeartbeats 8000000 in
theorem town_short (sq : Option Addr) (n cp : Nat) (L : Nat → Int) (hn : n ≤ 16) (at_ k : Int) (user : Bool) (ha : U at_) (k0 : 0 ≤ k) (_k1 : k ≤ 255) {W : World} (hP : RowU W sq n L) (hT : Tab12 W) :
    Calls Tryd.prog 5 #[.slice sq n cp, .int .u64 at_, .int .u8 k, .bool user] W fun e w' => e = .returned (.bool true) ∧ Kept W w' := by
  have l1 : ¬ (16 : Int) < (n : Int) := by omega
  have ha0 := ha.1
  have hk3 : k % 3 = 0 ∨ k % 3 = 1 ∨ k % 3 = 2 := by omega
  have ek : k.tmod 3 = k % 3 := Int.tmod_eq_emod_of_nonneg k0
  have ew : IntKind.i64.wrap (k % 3) = k % 3 := by rw [IntKind.wrap_i64]; omega
  go_enter Tryd.func5, Tryd.ntmps5
  go_wp2_with fail
  refine (known12_any hT (Only.refl _ W)).mono ?_
  rintro e w1 ⟨rfl, k1⟩
  go_wp2_with fail
  refine (new_from k1).mono ?_
  rintro e w2 ⟨p, q, rfl, s2⟩
  go_wp2_with fail
  refine (rmake_any _ _ _).mono ?_
  rintro e w3 ⟨rfl, rfl⟩
  go_wp2_with fail
  refine (mwrite_any 256 8 (makI 2 1) (by unfold U; omega) _ p q _ s2.m).mono ?_
  rintro e w3 ⟨rfl, m3, g3⟩
  have s3 : St W w3 p q (ownM L 0) := ⟨m3, s2.k.new g3 (fun i hi => by rw [hi]; exact s2.hq), s2.hp, s2.hq⟩
  clear m3 g3 s2 k1
  go_wp2_with fail
  go_loopw [10] (fun i ws => ∃ j : Nat, j ≤ n ∧ i = .int .i64 (j : Int) ∧ St W ws p q (ownM L j)) (fun i _ => n - (intOf i).toNat)
  case atStart => exact ⟨0, Nat.zero_le _, rfl, s3⟩
  case round =>
    obtain ⟨j, hj, rfl, sj⟩ := hrel
    clear s3
    by_cases hlt : j < n
    · rcases hP.lies with h0 | ⟨b, o, rfl, hpc⟩
      · omega
      obtain ⟨p0, p1⟩ := hP.bd j hlt
      have pc0 := hpc j hlt
      have pc := Kept.cell sj.k pc0
      have hbq : ¬ b = q := by have := cell_ltu pc0; have := sj.hq; omega
      have hkeep : j < n := hlt
      have hlt' : (j : Int) < (n : Int) := by omega
      have hj0 : (0 : Int) ≤ (j : Int) := by omega
      have hj9 : (j : Int) ≤ 16 := by omega
      have hU : U (512 + 8 * (j : Int)) := by unfold U; omega
      clear hpc pc0 hP
      go_wp2_with fail
      refine (rmake_any _ _ _).mono ?_
      rintro e w4 ⟨rfl, rfl⟩
      go_wp2_with fail
      refine (mwrite_any (512 + 8 * (j : Int)) 8 (makI (L j % 128) 223) hU _ p q _ sj.m).mono ?_
      rintro e w4 ⟨rfl, m4, g4⟩
      have s4 : St W w4 p q (ownM L (j + 1)) := ⟨m4, sj.k.new g4 (fun i hi => by rw [hi]; exact sj.hq), sj.hp, sj.hq⟩
      clear m4 g4 sj
      go_wp2_with fail
      have hk2 : j < n := hkeep
      exact ⟨⟨j + 1, by omega, by go_num, s4⟩, by simp [intOf]; omega⟩
    · have hjn : j = n := by omega
      subst hjn
      clear hj
      have h1 := st_new wr ownS0
      have s4 := sj.kept ((Only.refl _ wr).alloc (.cells (rowOf 65 (stF ownS0)) 27))
      have hsb := sj.k.size
      have hpq := sj.m.lt
      clear sj
      go_upto_region 12 with (first | refine wpList_built rfl 27 _ rfl (rowOf 65 (stF ownS0)) (by kernel_rfl) ?_ | refine wpList_alloc_is rfl 27 rfl (rowOf 65 zF12) st_zero12 ?_ | (refine wpList_store_is rfl 27 _ _ rfl rfl rfl (row_alloc _ 65 zF12 _) st_size (fun i _ => stF_one _ i) ?_; rw [World.setRow_alloc_new]))
      simp only [Act.put]
      generalize (wr.alloc (.cells (rowOf 65 (stF ownS0)) 27)) = w5 at h1 s4 ⊢
      generalize wr.heap.size = sb at h1 hsb hpq ⊢
      have l1 := World.rowIs.lt h1
      have v5 := h1.cell (i := 56) (by omega)
      have u5 := h1.frozen 56
      have h6 : StAt (w5.setCell ⟨sb, 56, none⟩ (.int .u64 9223372036855103489)) sb ownS := h1.set (i := 21) (by omega) 9223372036855103489
      have o6 := Only.setCell (Only.refl (fun i => i = sb) w5) (x := ⟨sb, 56, none⟩) rfl (.int .u64 9223372036855103489)
      have s6 : St W (w5.setCell ⟨sb, 56, none⟩ (.int .u64 9223372036855103489)) p q (ownM L j) := ⟨s4.m.carry o6 (by omega) (by omega), s4.k.new o6 fun i hi => by omega, s4.hp, s4.hq⟩
      go_upto_region 13 with fail
      clear h1 s4 v5 u5 o6
      generalize w5.setCell ⟨sb, 56, none⟩ (.int .u64 9223372036855103489) = w6 at h6 s6 ⊢
      have l6 := World.rowIs.lt h6
      by_cases hb : at_ < 256 * (j : Int)
      · obtain ⟨m, hm⟩ := Int.eq_ofNat_of_zero_le (show 0 ≤ at_ / 256 by omega)
        have hmj : m < j := by omega
        rcases hP.lies with h0 | ⟨b, o, rfl, hpc⟩
        · omega
        obtain ⟨p0, p1⟩ := hP.bd m hmj
        have pc0 := hpc m hmj
        have hX : ownT L j at_ (k % 3) = ⟨L m % 128 * 256 + at_ % 256, ownE (m : Int) (L m % 128), fltNone, true⟩ := by
          unfold ownT ownG ownE
          rw [if_pos hb, hm, Int.toNat_natCast]
        have hx1 := own_tr L j hn at_ (k % 3) 1 ha.1 hk3 (.inl rfl)
        have hx0 := own_tr L j hn at_ (k % 3) 0 ha.1 hk3 (.inr rfl)
        rw [hX] at hx1 hx0
        have hmj' : (m : Int) < (j : Int) := by omega
        have hm0 : (0 : Int) ≤ (m : Int) := by omega
        have hm9 : (m : Int) < 16 := by omega
        have hkeep : W = W := rfl
        clear hpc hX hP
        cases user
        · go_upto_region 17 with (first | (refine wpList_load_is (by rfl) 27 _ rfl rfl h6 _ Tryd.underlying27 rfl st_size ?_) | (go_at_call 12; refine (ttr_any (hT.kept s6.k) s6.m ownS_ok at_ (k % 3) 1 true hk3 ha).mono ?_; rintro e w7 ⟨rfl, k7⟩; rw [hx1]) | (refine wpList_alloc_go rfl 36 rfl (entA entNone).toArray ent_zero' ?_; intro eb w7a n7a k7a m7a e7a) | (refine wpList_alloc_go rfl 38 rfl (fltA fltNone).toArray flt_zero' ?_; intro fb w7b n7b k7b m7b f7b) | (refine wpList_store_go rfl 36 _ _ rfl eb (entA (ownE (m : Int) (L m % 128))).toArray rfl rfl (k7b.block e7a id) (ent_size' _) ((ent_len _).trans (ent_len _).symm) (ent_ones' _) ?_; intro w7c o7c e7c) | (refine wpList_store_go rfl 38 _ _ rfl fb (fltA fltNone).toArray rfl rfl (o7c.block f7b (by omega)) (flt_size' _) ((flt_len _).trans (flt_len _).symm) (flt_ones' _) ?_; intro w7d o7d f7d))
          have kk : Kept w6 w7d := (((k7.then k7a).then k7b).new o7c fun i hi => by have := k7.size; omega).new o7d fun i hi => by have := k7.size; omega
          have pc := Kept.cell (s6.k.then kk) pc0
          have e9 : Blk w7d eb _ _ := e7c.past o7d (by omega)
          have c4 : _ = some (Value.int .i64 5) := e9.cell 4
          have c5 : _ = some (Value.int .i64 (L m % 128)) := e9.cell 5
          have c6 : _ = some (Value.int .i64 255) := e9.cell 6
          have c8 : _ = some (Value.int .i64 (m : Int)) := e9.cell 8
          have hk9 : Kept W w7d := s6.k.then kk
          clear kk k7 k7a k7b o7c o7d e7a e7c f7b f7d pc0 s6 h6 e9 hx1 hx0
          go_wp2_with fail
          go_ret
          exact ⟨rfl, hk9⟩
        · go_upto_region 17 with (first | (refine wpList_load_is (by rfl) 27 _ rfl rfl h6 _ Tryd.underlying27 rfl st_size ?_) | (go_at_call 12; refine (ttr_any (hT.kept s6.k) s6.m ownS_ok at_ (k % 3) 0 true hk3 ha).mono ?_; rintro e w7 ⟨rfl, k7⟩; rw [hx0]) | (refine wpList_alloc_go rfl 36 rfl (entA entNone).toArray ent_zero' ?_; intro eb w7a n7a k7a m7a e7a) | (refine wpList_alloc_go rfl 38 rfl (fltA fltNone).toArray flt_zero' ?_; intro fb w7b n7b k7b m7b f7b) | (refine wpList_store_go rfl 36 _ _ rfl eb (entA (ownE (m : Int) (L m % 128))).toArray rfl rfl (k7b.block e7a id) (ent_size' _) ((ent_len _).trans (ent_len _).symm) (ent_ones' _) ?_; intro w7c o7c e7c) | (refine wpList_store_go rfl 38 _ _ rfl fb (fltA fltNone).toArray rfl rfl (o7c.block f7b (by omega)) (flt_size' _) ((flt_len _).trans (flt_len _).symm) (flt_ones' _) ?_; intro w7d o7d f7d))
          have kk : Kept w6 w7d := (((k7.then k7a).then k7b).new o7c fun i hi => by have := k7.size; omega).new o7d fun i hi => by have := k7.size; omega
          have pc := Kept.cell (s6.k.then kk) pc0
          have e9 : Blk w7d eb _ _ := e7c.past o7d (by omega)
          have c4 : _ = some (Value.int .i64 5) := e9.cell 4
          have c5 : _ = some (Value.int .i64 (L m % 128)) := e9.cell 5
          have c6 : _ = some (Value.int .i64 255) := e9.cell 6
          have c8 : _ = some (Value.int .i64 (m : Int)) := e9.cell 8
          have hk9 : Kept W w7d := s6.k.then kk
          clear kk k7 k7a k7b o7c o7d e7a e7c f7b f7d pc0 s6 h6 e9 hx1 hx0
          go_wp2_with fail
          go_ret
          exact ⟨rfl, hk9⟩
      · have hX : ownT L j at_ (k % 3) = ⟨0, entNone, ⟨gfC (k % 3), at_, at_ / 4, true⟩, false⟩ := by
          unfold ownT
          rw [if_neg hb]
        have hx1 := own_tr L j hn at_ (k % 3) 1 ha.1 hk3 (.inl rfl)
        have hx0 := own_tr L j hn at_ (k % 3) 0 ha.1 hk3 (.inr rfl)
        rw [hX] at hx1 hx0
        have hc : gfC (k % 3) = 20 ∨ gfC (k % 3) = 21 ∨ gfC (k % 3) = 23 := by rcases hk3 with h | h | h <;> rw [h] <;> decide +kernel
        generalize gfC (k % 3) = c at hx1 hx0 hc
        clear hX hP
        cases user
        · go_upto_region 17 with (first | (refine wpList_load_is (by rfl) 27 _ rfl rfl h6 _ Tryd.underlying27 rfl st_size ?_) | (go_at_call 12; refine (ttr_any (hT.kept s6.k) s6.m ownS_ok at_ (k % 3) 1 true hk3 ha).mono ?_; rintro e w7 ⟨rfl, k7⟩; rw [hx1]) | (refine wpList_alloc_go rfl 36 rfl (entA entNone).toArray ent_zero' ?_; intro eb w7a n7a k7a m7a e7a) | (refine wpList_alloc_go rfl 38 rfl (fltA fltNone).toArray flt_zero' ?_; intro fb w7b n7b k7b m7b f7b) | (refine wpList_store_go rfl 36 _ _ rfl eb (entA entNone).toArray rfl rfl (k7b.block e7a id) (ent_size' _) ((ent_len _).trans (ent_len _).symm) (ent_ones' _) ?_; intro w7c o7c e7c) | (refine wpList_store_go rfl 38 _ _ rfl fb (fltA ⟨c, at_, at_ / 4, true⟩).toArray rfl rfl (o7c.block f7b (by omega)) (flt_size' _) ((flt_len _).trans (flt_len _).symm) (flt_ones' _) ?_; intro w7d o7d f7d))
          have kk : Kept w6 w7d := (((k7.then k7a).then k7b).new o7c fun i hi => by have := k7.size; omega).new o7d fun i hi => by have := k7.size; omega
          have c0 : _ = some (Value.int .u64 c) := f7d.cell 0
          have c1 : _ = some (Value.int .u64 at_) := f7d.cell 1
          have c2 : _ = some (Value.int .u64 (at_ / 4)) := f7d.cell 2
          have c3 : _ = some (Value.bool true) := f7d.cell 3
          have hk9 : Kept W w7d := s6.k.then kk
          clear kk k7 k7a k7b o7c o7d e7a e7c f7b f7d s6 h6 hx1 hx0
          have e4 : IntKind.u64.wrap (at_.tdiv 4) = at_ / 4 := by
            rw [Int.tdiv_eq_ediv_of_nonneg ha0, IntKind.wrap_u64]
            have := ha.2
            omega
          rcases hc with rfl | rfl | rfl
          all_goals
            go_wp2_with fail
            go_ret
            exact ⟨rfl, hk9⟩
        · go_upto_region 17 with (first | (refine wpList_load_is (by rfl) 27 _ rfl rfl h6 _ Tryd.underlying27 rfl st_size ?_) | (go_at_call 12; refine (ttr_any (hT.kept s6.k) s6.m ownS_ok at_ (k % 3) 0 true hk3 ha).mono ?_; rintro e w7 ⟨rfl, k7⟩; rw [hx0]) | (refine wpList_alloc_go rfl 36 rfl (entA entNone).toArray ent_zero' ?_; intro eb w7a n7a k7a m7a e7a) | (refine wpList_alloc_go rfl 38 rfl (fltA fltNone).toArray flt_zero' ?_; intro fb w7b n7b k7b m7b f7b) | (refine wpList_store_go rfl 36 _ _ rfl eb (entA entNone).toArray rfl rfl (k7b.block e7a id) (ent_size' _) ((ent_len _).trans (ent_len _).symm) (ent_ones' _) ?_; intro w7c o7c e7c) | (refine wpList_store_go rfl 38 _ _ rfl fb (fltA ⟨c, at_, at_ / 4, true⟩).toArray rfl rfl (o7c.block f7b (by omega)) (flt_size' _) ((flt_len _).trans (flt_len _).symm) (flt_ones' _) ?_; intro w7d o7d f7d))
          have kk : Kept w6 w7d := (((k7.then k7a).then k7b).new o7c fun i hi => by have := k7.size; omega).new o7d fun i hi => by have := k7.size; omega
          have c0 : _ = some (Value.int .u64 c) := f7d.cell 0
          have c1 : _ = some (Value.int .u64 at_) := f7d.cell 1
          have c2 : _ = some (Value.int .u64 (at_ / 4)) := f7d.cell 2
          have c3 : _ = some (Value.bool true) := f7d.cell 3
          have hk9 : Kept W w7d := s6.k.then kk
          clear kk k7 k7a k7b o7c o7d e7a e7c f7b f7d s6 h6 hx1 hx0
          have e4 : IntKind.u64.wrap (at_.tdiv 4) = at_ / 4 := by
            rw [Int.tdiv_eq_ediv_of_nonneg ha0, IntKind.wrap_u64]
            have := ha.2
            omega
          rcases hc with rfl | rfl | rfl
          all_goals
            go_wp2_with fail
            go_ret
            exact ⟨rfl, hk9⟩
set_option maxHeartbeats 1000000 in
theorem town_any (v : Value) (at_ k : Int) (user : Bool) {W : World} (h : RowB W v) (ha : U at_) (k0 : 0 ≤ k) (k1 : k ≤ 255) (hT : Tab12 W) :
    Calls Tryd.prog 5 #[v, .int .u64 at_, .int .u8 k, .bool user] W fun e w' => e = .returned (.bool true) ∧ Kept W w' := by
  obtain ⟨sq, n, cp, L, rfl, hP⟩ := h
  by_cases hn : n ≤ 16
  · exact town_short sq n cp L hn at_ k user ha k0 k1 hP hT
  · have l1 : (16 : Int) < (n : Int) := by omega
    clear hP hn
    go_enter Tryd.func5, Tryd.ntmps5
    go_wp2_with fail
    refine (known12_any hT (Only.refl _ W)).mono ?_
    rintro e w1 ⟨rfl, k1⟩
    go_wp2
    go_ret
    exact ⟨rfl, k1⟩
end Go.Proofs.YtpplclenokfpeaaDoor
