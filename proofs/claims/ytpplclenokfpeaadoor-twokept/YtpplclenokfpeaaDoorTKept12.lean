/-
  What statement TwoKept asks: walked for every argument.
-/
import Derived.Test.YtpplclenokfpeaaDoorTTells12
import Derived.Test.YtpplclenokfpeaaDoorKeptDoc
import Derived.Test.YtpplclenokfpeaaDoorLAllow12
namespace Go.Proofs.YtpplclenokfpeaaDoor
open Go.RowKit
/-- A load, guarded or not, whose run is known. -/
theorem wpList_load_run12 {P : Program} {ops : Array Oper} {rest : List Oper} {o : Oper} {a : Act} {w : World} {Q : Exit → Act → World → Prop} (hw : Region.wanted o (yielded ops a.tmps) = true) (ty : TypeId) (x : Operand) (ho : o.op = .load ty x)
    {ad : Addr} {v : Value} (hx : a.eval x = .pointer (some ad)) (hl : (loadVar ty ad).run P w = .ok v w) (h : wpList P ops Q rest (a.put o.dst v) w) : wpList P ops Q (o :: rest) a w :=
  BigFrame.wpList_want hw fun _ hK => by
    unfold Oper.wp execOp
    simp only [ho, hx, Instr.loadAt, Instr.sureAddr, Sem.run_bind, Sem.run_pure, Result.andThen_ok, hl]
    exact hK _ _ h
set_option maxRecDepth 100000 in
set_option maxHeartbeats 16000000 in
theorem tkept_any (v : Value) {S : StM} (hS : S.Ok) (at_ tz kind other : Int) (user vv : Bool) {W : World} (h : RowP W v) (ha : U at_) (_htz : U tz) (k0 : 0 ≤ kind) (_k1 : kind ≤ 255) (o0 : 0 ≤ other) (_o1 : other ≤ 255) (hT : Tab12 W) :
    Calls Tryd.prog 4 #[v, .agg (rowOf 65 (stF S)), .int .u64 at_, .int .u64 tz, .int .u8 kind, .int .u8 other, .bool user, .bool vv] W fun e w' => e = .returned (.bool true) ∧ Kept W w' := by
  have hk4 : other % 3 = 0 ∨ other % 3 = 1 ∨ other % 3 = 2 := by omega
  have ek2 : other.tmod 3 = other % 3 := Int.tmod_eq_emod_of_nonneg o0
  have ew2 : IntKind.i64.wrap (other % 3) = other % 3 := by rw [IntKind.wrap_i64]; omega
  obtain ⟨q, n, cap, rfl⟩ := h.form
  have hk3 : kind % 3 = 0 ∨ kind % 3 = 1 ∨ kind % 3 = 2 := by omega
  have ek : kind.tmod 3 = kind % 3 := Int.tmod_eq_emod_of_nonneg k0
  have ew : IntKind.i64.wrap (kind % 3) = kind % 3 := by rw [IntKind.wrap_i64]; omega
  have h0 := st_new W S
  have kk := (Only.refl (fun _ => False) W).alloc (.cells (rowOf 65 (stF S)) 27)
  go_enter Tryd.func4, Tryd.ntmps4
  go_wp2_with fail
  refine (known12_any (hT.kept kk) (Only.refl _ _)).mono ?_
  rintro e w1 ⟨rfl, kw⟩
  have k1 := kk.then kw
  have h1 := st_kept h0 kw
  have hr := h.kept k1
  clear h0 kk kw h
  go_wp2_with fail
  refine (few_any q n cap _).mono ?_
  rintro e wy ⟨rfl, hwy⟩
  rw [hwy]
  clear hwy wy
  by_cases hn : n ≤ 60
  · rw [decide_eq_true hn]
    go_wp2_with fail
    refine (both_row hr hn).mono ?_
    rintro e w2 ⟨pm, qm, pr, qr, B, rfl, d2⟩
    have h2 := st_kept h1 d2.k
    have d2 : Duo W w2 pm qm pr qr B B := ⟨d2.m, d2.r, k1.then d2.k, Nat.le_trans k1.size d2.hm, Nat.le_trans k1.size d2.hr, d2.n1, d2.n2, d2.n3⟩
    clear h1 hr k1
    have hS2 := cleanM_ok hS
    go_upto_region 7 with (first | (refine wpList_load_is (by rfl) 27 _ rfl rfl h2 _ Tryd.underlying27 rfl st_size ?_) | (go_at_call 11; refine (rclean_any S _).mono ?_; rintro e w3o ⟨rfl, k3⟩) | refine wpList_alloc_is rfl 27 rfl (rowOf 65 zF12) st_zero12 ?_ | (refine wpList_store_is rfl 27 _ _ rfl rfl rfl (row_alloc _ 65 zF12 _) st_size (fun i _ => stF_one _ i) ?_; rw [World.setRow_alloc_new]))
    generalize cleanM S = S2 at hS2 ⊢
    have h3 := st_new w3o S2
    have d3 := (d2.kept k3).kept ((Only.refl _ w3o).alloc (.cells (rowOf 65 (stF S2)) 27))
    clear h2 d2 k3
    try simp only [Act.put, List.setIfInBounds_toArray, List.set_cons_zero, List.set_cons_succ]
    generalize (w3o.alloc (.cells (rowOf 65 (stF S2)) 27)) = w3 at h3 d3 ⊢
    generalize hsb : w3o.heap.size = sb at h3 ⊢
    go_upto_region 8 with (first | (refine wpList_load_is (by rfl) 27 _ rfl rfl h3 _ Tryd.underlying27 rfl st_size ?_) | (go_at_call 12; refine (ttr_any (hT.kept d3.k) d3.m hS2 at_ (kind % 3) 1 vv hk3 ha).mono ?_; rintro e w4 ⟨rfl, k4⟩; generalize hX : trS B S2 at_ (kind % 3) 1 vv false = X) | (refine wpList_alloc_go rfl 36 rfl (entA entNone).toArray ent_zero' ?_; intro eb7 w7a n7a k7a m7a e7a) | (refine wpList_alloc_go rfl 38 rfl (fltA fltNone).toArray flt_zero' ?_; intro fb7 w7b n7b k7b m7b f7b) | (refine wpList_store_go rfl 36 _ _ rfl eb7 (entA X.e).toArray rfl rfl (k7b.block e7a id) (ent_size' _) ((ent_len _).trans (ent_len _).symm) (ent_ones' _) ?_; intro w7c o7c e7c) | (refine wpList_store_go rfl 38 _ _ rfl fb7 (fltA X.f).toArray rfl rfl (o7c.block f7b (by omega)) (flt_size' _) ((flt_len _).trans (flt_len _).symm) (flt_ones' _) ?_; intro w7d o7d f7d))
    have kk : Kept w3 w7d := (((k4.then k7a).then k7b).new o7c fun i hi => by have := k4.size; omega).new o7d fun i hi => by have := k4.size; omega
    have h4 := st_kept h3 kk
    have d4 := d3.kept kk
    have e4 : Blk w7d eb7 _ _ := e7c.past o7d (by omega)
    clear h3 d3 k4 k7a k7b o7c o7d f7b e7a e7c f7d kk
    cases hok : X.ok
    · have hnone : X.e = entNone := by rw [← hX]; exact tr_no S2 at_ (kind % 3) 1 vv (by rw [hX]; exact hok)
      have q1 := eq_ent entNone
      rw [hnone] at e4
      go_wp2_with (first | (refine wpList_load_blk (by rfl) 36 _ rfl eb7 rfl e4 _ Tryd.underlying36 rfl (ent_size' _) ?_) | (refine wpList_built_is (by rfl) 36 _ rfl (entA entNone).toArray (by kernel_rfl) ?_))
      go_ret
      exact ⟨rfl, d4.k⟩
    · have hEok : X.e.Ok := by rw [← hX]; exact tr_Ok d4.m.byte S2 at_ (kind % 3) 1 vv ha.1 (by rw [hX]; exact hok)
      cases user
      · go_upto_region 13 with fail
        go_upto_region 14 with (first | (refine wpList_load_is (by rfl) 27 _ rfl rfl h4 _ Tryd.underlying27 rfl st_size ?_) | (refine wpList_load_blk (by rfl) 36 _ rfl eb7 rfl e4 _ Tryd.underlying36 rfl (ent_size' _) ?_) | (go_at_call 18; refine (tallow_any (hT.kept d4.k) hS2 X.e hEok at_ (other % 3) 1 vv hk4 ha).mono ?_; rintro r w5 ⟨rfl, k5⟩) | (refine wpList_alloc_go rfl 38 rfl (fltA fltNone).toArray flt_zero' ?_; intro fb5 ua nua kua mua gua) | (refine wpList_store_go rfl 38 _ _ rfl fb5 (fltA (alwS S2 X.e at_ (other % 3) 1 vv).f).toArray rfl rfl gua (flt_size' _) ((flt_len _).trans (flt_len _).symm) (flt_ones' _) ?_; intro ub oub gub))
        have kk : Kept w7d ub := (k5.then kua).new oub fun i hi => by have := k5.size; omega
        have h5 := st_kept h4 kk
        have d5 := d4.kept kk
        have e5 := e4.kept kk
        clear h4 d4 e4
        have f5 : Blk ub fb5 _ _ := gub
        clear k5 kua oub gua gub kk
        go_upto_region 15 with (first | (refine wpList_load_is (by rfl) 27 _ rfl rfl h5 _ Tryd.underlying27 rfl st_size ?_) | (refine wpList_load_blk (by rfl) 36 _ rfl eb7 rfl e5 _ Tryd.underlying36 rfl (ent_size' _) ?_) | (go_at_call 19; refine (lallow_any hS2 X.e hEok.guest at_ (other % 3) 1 vv hk4 _).mono ?_; rintro r w6 ⟨rfl, k6⟩) | (refine wpList_alloc_go rfl 38 rfl (fltA fltNone).toArray flt_zero' ?_; intro fb6 va nva kva mva gva) | (refine wpList_store_go rfl 38 _ _ rfl fb6 (fltA (alwS S2 X.e at_ (other % 3) 1 vv).f).toArray rfl rfl gva (flt_size' _) ((flt_len _).trans (flt_len _).symm) (flt_ones' _) ?_; intro vb ovb gvb))
        have kk : Kept ub vb := (k6.then kva).new ovb fun i hi => by have := k6.size; omega
        have h6 := st_kept h5 kk
        have d6 := d5.kept kk
        have e6 := e5.kept kk
        have f6 := f5.kept kk
        clear h5 d5 e5 f5
        have g6 : Blk vb fb6 _ _ := gvb
        clear k6 kva ovb gva gvb kk
        have qn := ne_flt (alwS S2 X.e at_ (other % 3) 1 vv).f
        generalize alwS S2 X.e at_ (other % 3) 1 vv = Z at f6 g6 qn ⊢
        go_upto_region 17 with (first | (refine wpList_load_blk (by rfl) 38 _ rfl fb5 rfl f6 _ Tryd.underlying38 rfl (flt_size' _) ?_) | (refine wpList_load_blk (by rfl) 38 _ rfl fb6 rfl g6 _ Tryd.underlying38 rfl (flt_size' _) ?_))
        clear f6 g6 qn
        have hmix := mix_place (z := tz) ha
        have hlow : bits .and .u64 tz 255 = tz % 256 := u_low tz 8 (by omega) 255 rfl
        go_upto_region 18 with fail
        clear hlow hmix
        generalize hy : at_ / 256 * 256 + tz % 256 = y
        have hy0 : 0 ≤ y := by have := ha.1; omega
        have hyU : U y := by have := ha.2; unfold U; omega
        have hpg : at_ / 256 = y / 256 := by omega
        obtain ⟨K1, K2⟩ := kept_law d6.m.byte S2 hpg ha.1 hy0 (kind % 3) (other % 3) 1 vv (rfl) (by rw [hX]; exact hok)
        rw [hX] at K1 K2
        clear hy
        go_upto_region 19 with (first | (refine wpList_load_is (by rfl) 27 _ rfl rfl h6 _ Tryd.underlying27 rfl st_size ?_) | (go_at_call 13; refine (rtr_any hS2 y (other % 3) 1 vv false hk4 hyU d6.r).mono ?_; rintro r w7x ⟨tt, rfl, ot, k7⟩; obtain ⟨xq, xn, xc, rfl⟩ := ot.form) | (refine wpList_alloc_go rfl 43 rfl (fndA 0 entNone fltNone false (.slice none 0 0)) fnd_zero ?_; intro gb p5a n5a k5a m5a g5a) | (refine wpList_store_go rfl 43 _ _ rfl gb (fndA (trS B S2 y (other % 3) 1 vv false).p (trS B S2 y (other % 3) 1 vv false).e (trS B S2 y (other % 3) 1 vv false).f (trS B S2 y (other % 3) 1 vv false).ok (.slice xq xn xc)) rfl rfl g5a (fnd_size _ _ _ _ _) ((fnd_len _ _ _ _ _).trans (fnd_len _ _ _ _ _).symm) (fnd_ones _ _ _ _ rfl) ?_; intro p5b o5b g5b))
        have kk : Kept vb p5b := (k7.then k5a).new o5b fun i hi => by have := k7.size; omega
        have h7 := st_kept h6 kk
        have d7 := d6.kept kk
        have e7 := e6.kept kk
        clear h6 d6 e6
        clear k7 k5a o5b g5a kk ot
        generalize trS B S2 y (other % 3) 1 vv false = Y at K1 K2 g5b
        go_upto_region 20 with (first | (refine wpList_load_is (by rfl) 27 _ rfl rfl h7 _ Tryd.underlying27 rfl st_size ?_) | (refine wpList_load_blk (by rfl) 36 _ rfl eb7 rfl e7 _ Tryd.underlying36 rfl (ent_size' _) ?_) | (go_at_call 18; refine (tallow_any (hT.kept d7.k) hS2 X.e hEok y (other % 3) 1 vv hk4 hyU).mono ?_; rintro r w8 ⟨rfl, k8⟩) | (refine wpList_alloc_go rfl 38 rfl (fltA fltNone).toArray flt_zero' ?_; intro fb8 sa nsa ksa msa gsa) | (refine wpList_store_go rfl 38 _ _ rfl fb8 (fltA (alwS S2 X.e y (other % 3) 1 vv).f).toArray rfl rfl gsa (flt_size' _) ((flt_len _).trans (flt_len _).symm) (flt_ones' _) ?_; intro sb osb gsb))
        have kk : Kept p5b sb := (k8.then ksa).new osb fun i hi => by have := k8.size; omega
        have h8 := st_kept h7 kk
        have d8 := d7.kept kk
        have e8 := e7.kept kk
        clear h7 d7 e7
        have y8 := g5b.kept kk
        have f8 : Blk sb fb8 _ _ := gsb
        clear k8 ksa osb gsa gsb kk g5b
        generalize alwS S2 X.e y (other % 3) 1 vv = Q at K1 K2 f8 ⊢
        have c6 : _ = some (Value.int .i64 X.e.bits) := e8.cell 6
        have c7 : _ = some (Value.int .i64 X.e.host) := e8.cell 7
        have c14 : _ = some (Value.bool Y.ok) := y8.cell 14
        by_cases hh : X.e.bits = 255 ∧ X.e.host = 255
        · have q9 := K1 hh
          have b1 : (X.e.bits == 255) = true := beq_iff_eq.2 hh.1
          have b2 : (X.e.host == 255) = true := beq_iff_eq.2 hh.2
          clear K1 K2 hh c14 hpg hok hX
          go_wp2
          go_ret
          exact ⟨by rw [q9]; rfl, d8.k⟩
        · obtain ⟨m1, m2, m3⟩ := K2 hh
          have hw : (X.e.bits == 255) = false ∨ ((X.e.bits == 255) = true ∧ (X.e.host == 255) = false) := by
            by_cases z : X.e.bits = 255
            · exact .inr ⟨beq_iff_eq.2 z, beq_eq_false_iff_ne.2 fun u => hh ⟨z, u⟩⟩
            · exact .inl (beq_eq_false_iff_ne.2 z)
          clear K1 K2 hh hpg hok hX
          cases hyo : Y.ok
          · rw [hyo] at m1 c14
            have y9 := y8
            rw [← m3 hyo] at y9
            have q9 := eq_flt Q.f
            have r1 := fnd_flt y9
            clear m2 m3 y8 hyo
            rcases hw with b1 | ⟨b1, b2⟩
            all_goals
              rw [m1]
              go_wp2_with (first | (refine wpList_load_blk (by rfl) 38 _ rfl fb8 rfl f8 _ Tryd.underlying38 rfl (flt_size' _) ?_) | (refine wpList_load_run12 (by rfl) 38 _ rfl rfl r1 ?_))
              go_ret
              exact ⟨rfl, d8.k⟩
          · rw [hyo] at m1 c14
            have y9 := y8
            rw [m2 hyo] at y9
            have q9 := eq_ent X.e
            have r1 := fnd_ent y9
            clear m2 m3 y8 hyo
            rcases hw with b1 | ⟨b1, b2⟩
            all_goals
              rw [m1]
              go_wp2_with (first | (refine wpList_load_run12 (by rfl) 36 _ rfl rfl r1 ?_) | (refine wpList_load_blk (by rfl) 36 _ rfl eb7 rfl e8 _ Tryd.underlying36 rfl (ent_size' _) ?_))
              go_ret
              exact ⟨rfl, d8.k⟩
      · go_upto_region 13 with fail
        go_upto_region 14 with (first | (refine wpList_load_is (by rfl) 27 _ rfl rfl h4 _ Tryd.underlying27 rfl st_size ?_) | (refine wpList_load_blk (by rfl) 36 _ rfl eb7 rfl e4 _ Tryd.underlying36 rfl (ent_size' _) ?_) | (go_at_call 18; refine (tallow_any (hT.kept d4.k) hS2 X.e hEok at_ (other % 3) 0 vv hk4 ha).mono ?_; rintro r w5 ⟨rfl, k5⟩) | (refine wpList_alloc_go rfl 38 rfl (fltA fltNone).toArray flt_zero' ?_; intro fb5 ua nua kua mua gua) | (refine wpList_store_go rfl 38 _ _ rfl fb5 (fltA (alwS S2 X.e at_ (other % 3) 0 vv).f).toArray rfl rfl gua (flt_size' _) ((flt_len _).trans (flt_len _).symm) (flt_ones' _) ?_; intro ub oub gub))
        have kk : Kept w7d ub := (k5.then kua).new oub fun i hi => by have := k5.size; omega
        have h5 := st_kept h4 kk
        have d5 := d4.kept kk
        have e5 := e4.kept kk
        clear h4 d4 e4
        have f5 : Blk ub fb5 _ _ := gub
        clear k5 kua oub gua gub kk
        go_upto_region 15 with (first | (refine wpList_load_is (by rfl) 27 _ rfl rfl h5 _ Tryd.underlying27 rfl st_size ?_) | (refine wpList_load_blk (by rfl) 36 _ rfl eb7 rfl e5 _ Tryd.underlying36 rfl (ent_size' _) ?_) | (go_at_call 19; refine (lallow_any hS2 X.e hEok.guest at_ (other % 3) 0 vv hk4 _).mono ?_; rintro r w6 ⟨rfl, k6⟩) | (refine wpList_alloc_go rfl 38 rfl (fltA fltNone).toArray flt_zero' ?_; intro fb6 va nva kva mva gva) | (refine wpList_store_go rfl 38 _ _ rfl fb6 (fltA (alwS S2 X.e at_ (other % 3) 0 vv).f).toArray rfl rfl gva (flt_size' _) ((flt_len _).trans (flt_len _).symm) (flt_ones' _) ?_; intro vb ovb gvb))
        have kk : Kept ub vb := (k6.then kva).new ovb fun i hi => by have := k6.size; omega
        have h6 := st_kept h5 kk
        have d6 := d5.kept kk
        have e6 := e5.kept kk
        have f6 := f5.kept kk
        clear h5 d5 e5 f5
        have g6 : Blk vb fb6 _ _ := gvb
        clear k6 kva ovb gva gvb kk
        have qn := ne_flt (alwS S2 X.e at_ (other % 3) 0 vv).f
        generalize alwS S2 X.e at_ (other % 3) 0 vv = Z at f6 g6 qn ⊢
        go_upto_region 17 with (first | (refine wpList_load_blk (by rfl) 38 _ rfl fb5 rfl f6 _ Tryd.underlying38 rfl (flt_size' _) ?_) | (refine wpList_load_blk (by rfl) 38 _ rfl fb6 rfl g6 _ Tryd.underlying38 rfl (flt_size' _) ?_))
        clear f6 g6 qn
        have hmix := mix_place (z := tz) ha
        have hlow : bits .and .u64 tz 255 = tz % 256 := u_low tz 8 (by omega) 255 rfl
        go_upto_region 18 with fail
        clear hlow hmix
        generalize hy : at_ / 256 * 256 + tz % 256 = y
        have hy0 : 0 ≤ y := by have := ha.1; omega
        have hyU : U y := by have := ha.2; unfold U; omega
        have hpg : at_ / 256 = y / 256 := by omega
        obtain ⟨K1, K2⟩ := kept_law d6.m.byte S2 hpg ha.1 hy0 (kind % 3) (other % 3) 0 vv (ask_lvl S2 vv) (by rw [hX]; exact hok)
        rw [hX] at K1 K2
        clear hy
        go_upto_region 19 with (first | (refine wpList_load_is (by rfl) 27 _ rfl rfl h6 _ Tryd.underlying27 rfl st_size ?_) | (go_at_call 13; refine (rtr_any hS2 y (other % 3) 0 vv false hk4 hyU d6.r).mono ?_; rintro r w7x ⟨tt, rfl, ot, k7⟩; obtain ⟨xq, xn, xc, rfl⟩ := ot.form) | (refine wpList_alloc_go rfl 43 rfl (fndA 0 entNone fltNone false (.slice none 0 0)) fnd_zero ?_; intro gb p5a n5a k5a m5a g5a) | (refine wpList_store_go rfl 43 _ _ rfl gb (fndA (trS B S2 y (other % 3) 0 vv false).p (trS B S2 y (other % 3) 0 vv false).e (trS B S2 y (other % 3) 0 vv false).f (trS B S2 y (other % 3) 0 vv false).ok (.slice xq xn xc)) rfl rfl g5a (fnd_size _ _ _ _ _) ((fnd_len _ _ _ _ _).trans (fnd_len _ _ _ _ _).symm) (fnd_ones _ _ _ _ rfl) ?_; intro p5b o5b g5b))
        have kk : Kept vb p5b := (k7.then k5a).new o5b fun i hi => by have := k7.size; omega
        have h7 := st_kept h6 kk
        have d7 := d6.kept kk
        have e7 := e6.kept kk
        clear h6 d6 e6
        clear k7 k5a o5b g5a kk ot
        generalize trS B S2 y (other % 3) 0 vv false = Y at K1 K2 g5b
        go_upto_region 20 with (first | (refine wpList_load_is (by rfl) 27 _ rfl rfl h7 _ Tryd.underlying27 rfl st_size ?_) | (refine wpList_load_blk (by rfl) 36 _ rfl eb7 rfl e7 _ Tryd.underlying36 rfl (ent_size' _) ?_) | (go_at_call 18; refine (tallow_any (hT.kept d7.k) hS2 X.e hEok y (other % 3) 0 vv hk4 hyU).mono ?_; rintro r w8 ⟨rfl, k8⟩) | (refine wpList_alloc_go rfl 38 rfl (fltA fltNone).toArray flt_zero' ?_; intro fb8 sa nsa ksa msa gsa) | (refine wpList_store_go rfl 38 _ _ rfl fb8 (fltA (alwS S2 X.e y (other % 3) 0 vv).f).toArray rfl rfl gsa (flt_size' _) ((flt_len _).trans (flt_len _).symm) (flt_ones' _) ?_; intro sb osb gsb))
        have kk : Kept p5b sb := (k8.then ksa).new osb fun i hi => by have := k8.size; omega
        have h8 := st_kept h7 kk
        have d8 := d7.kept kk
        have e8 := e7.kept kk
        clear h7 d7 e7
        have y8 := g5b.kept kk
        have f8 : Blk sb fb8 _ _ := gsb
        clear k8 ksa osb gsa gsb kk g5b
        generalize alwS S2 X.e y (other % 3) 0 vv = Q at K1 K2 f8 ⊢
        have c6 : _ = some (Value.int .i64 X.e.bits) := e8.cell 6
        have c7 : _ = some (Value.int .i64 X.e.host) := e8.cell 7
        have c14 : _ = some (Value.bool Y.ok) := y8.cell 14
        by_cases hh : X.e.bits = 255 ∧ X.e.host = 255
        · have q9 := K1 hh
          have b1 : (X.e.bits == 255) = true := beq_iff_eq.2 hh.1
          have b2 : (X.e.host == 255) = true := beq_iff_eq.2 hh.2
          clear K1 K2 hh c14 hpg hok hX
          go_wp2
          go_ret
          exact ⟨by rw [q9]; rfl, d8.k⟩
        · obtain ⟨m1, m2, m3⟩ := K2 hh
          have hw : (X.e.bits == 255) = false ∨ ((X.e.bits == 255) = true ∧ (X.e.host == 255) = false) := by
            by_cases z : X.e.bits = 255
            · exact .inr ⟨beq_iff_eq.2 z, beq_eq_false_iff_ne.2 fun u => hh ⟨z, u⟩⟩
            · exact .inl (beq_eq_false_iff_ne.2 z)
          clear K1 K2 hh hpg hok hX
          cases hyo : Y.ok
          · rw [hyo] at m1 c14
            have y9 := y8
            rw [← m3 hyo] at y9
            have q9 := eq_flt Q.f
            have r1 := fnd_flt y9
            clear m2 m3 y8 hyo
            rcases hw with b1 | ⟨b1, b2⟩
            all_goals
              rw [m1]
              go_wp2_with (first | (refine wpList_load_blk (by rfl) 38 _ rfl fb8 rfl f8 _ Tryd.underlying38 rfl (flt_size' _) ?_) | (refine wpList_load_run12 (by rfl) 38 _ rfl rfl r1 ?_))
              go_ret
              exact ⟨rfl, d8.k⟩
          · rw [hyo] at m1 c14
            have y9 := y8
            rw [m2 hyo] at y9
            have q9 := eq_ent X.e
            have r1 := fnd_ent y9
            clear m2 m3 y8 hyo
            rcases hw with b1 | ⟨b1, b2⟩
            all_goals
              rw [m1]
              go_wp2_with (first | (refine wpList_load_run12 (by rfl) 36 _ rfl rfl r1 ?_) | (refine wpList_load_blk (by rfl) 36 _ rfl eb7 rfl e8 _ Tryd.underlying36 rfl (ent_size' _) ?_))
              go_ret
              exact ⟨rfl, d8.k⟩
  · rw [decide_eq_false hn]
    go_wp2
    go_ret
    exact ⟨rfl, k1⟩
end Go.Proofs.YtpplclenokfpeaaDoor
