/-
  What statement TwoTells asks: walked for every argument.
-/
import Derived.Test.YtpplclenokfpeaaDoorTwoFace
import Derived.Test.YtpplclenokfpeaaDoorTBoth12
import Derived.Test.YtpplclenokfpeaaDoorRefTr5
import Derived.Test.YtpplclenokfpeaaDoorRefClean
import Derived.Deep.RegionHeld3
namespace Go.Proofs.YtpplclenokfpeaaDoor
open Go.RowKit
theorem load_state12 {w : World} {b : Nat} {S : StM} (h : StAt w b S) : (loadVar 27 ⟨b, 0, none⟩).run Tryd.prog w = .ok (.agg (rowOf 65 (stF S))) w :=
  load_row h _ Tryd.underlying27 rfl st_size
theorem load_ent12 {w : World} {b : Nat} {T : TypeId} {e : EntM} (h : Blk w b T (entA e).toArray) : (loadVar 36 ⟨b, 0, none⟩).run Tryd.prog w = .ok (.agg (entA e).toArray) w :=
  load_list w b _ (entA e).toArray.toList _ h.all Tryd.underlying36 rfl (ent_size' e)
theorem load_flt12 {w : World} {b : Nat} {T : TypeId} {f : FltM} (h : Blk w b T (fltA f).toArray) : (loadVar 38 ⟨b, 0, none⟩).run Tryd.prog w = .ok (.agg (fltA f).toArray) w :=
  load_list w b _ (fltA f).toArray.toList _ h.all Tryd.underlying38 rfl (flt_size' f)
theorem fnd_zero : (Tryd.prog.info? 43).map (fun i => i.zero.map (·.cells)) = some (some (fndA 0 entNone fltNone false (.slice none 0 0))) := by kernel_rfl
theorem fnd_len (at_ : Int) (e : EntM) (f : FltM) (ok : Bool) (t : Value) : (fndA at_ e f ok t).size = 16 := rfl
theorem fnd_ent {w : World} {b : Nat} {T : TypeId} {at_ : Int} {e : EntM} {f : FltM} {ok : Bool} {t : Value} (h : Blk w b T (fndA at_ e f ok t)) : (loadVar 36 ⟨b, 1, none⟩).run Tryd.prog w = .ok (.agg (entA e).toArray) w := by
  refine run_loadVar_mid w b 1 _ (entA e) _ (fun j v hv => ?_) Tryd.underlying36 rfl (ent_size' e)
  rw [h.cell, ← hv]
  match j with
  | 0 | 1 | 2 | 3 | 4 | 5 | 6 | 7 | 8 => rfl
  | n + 9 => simp [entA] at hv
theorem fnd_flt {w : World} {b : Nat} {T : TypeId} {at_ : Int} {e : EntM} {f : FltM} {ok : Bool} {t : Value} (h : Blk w b T (fndA at_ e f ok t)) : (loadVar 38 ⟨b, 10, none⟩).run Tryd.prog w = .ok (.agg (fltA f).toArray) w := by
  refine run_loadVar_mid w b 10 _ (fltA f) _ (fun j v hv => ?_) Tryd.underlying38 rfl (flt_size' f)
  rw [h.cell, ← hv]
  match j with
  | 0 | 1 | 2 | 3 => rfl
  | n + 4 => simp [fltA] at hv
theorem ask_lvl (S : StM) (v : Bool) : askS S 0 v = askS S 1 v := by
  unfold askS
  rw [if_neg (by decide), if_neg (by decide)]
theorem ask_mach (S : StM) (v : Bool) : askS S 3 v = ⟨false, false, false, false, 0, 0, 0, 0⟩ := by
  unfold askS
  rw [if_pos rfl]
theorem drewn12 {w : World} {b : Nat} {S : StM} (h : StAt w b S) : StAt w.drew b S := h
theorem Blk.drewn {w : World} {b : Nat} {T : TypeId} {cs : Array Value} (h : Blk w b T cs) : Blk w.drew b T cs := h
theorem run_loadVar_cell12 {w : World} {b o : Nat} {v : Value} {ty : TypeId} {d : TypeDesc} (h : w.cell? ⟨b, o, none⟩ = some v) (hd : (match d with | .struct _ | .array _ _ => false | _ => true) = true) (hu : Tryd.prog.underlying ty = some d) : (loadVar ty ⟨b, o, none⟩).run Tryd.prog w = .ok v w := by
  have hagg : (isAgg ty).run Tryd.prog w = .ok false w := by
    unfold isAgg
    rw [Sem.run_bind, run_underlying hu w]
    cases d <;> simp_all
  simp [loadVar, Sem.run_bind, hagg, h, go_sem]
set_option maxRecDepth 100000 in
set_option maxHeartbeats 16000000 in
theorem ttells_any (v : Value) {S : StM} (hS : S.Ok) (at_ kind : Int) (user vv : Bool) {W : World} (h : RowP W v) (ha : U at_) (k0 : 0 ≤ kind) (_k1 : kind ≤ 255) (hT : Tab12 W) :
    Calls Tryd.prog 3 #[v, .agg (rowOf 65 (stF S)), .int .u64 at_, .int .u8 kind, .bool user, .bool vv] W fun e w' => e = .returned (.bool true) ∧ Kept W w' := by
  obtain ⟨q, n, cap, rfl⟩ := h.form
  have hk3 : kind % 3 = 0 ∨ kind % 3 = 1 ∨ kind % 3 = 2 := by omega
  have ek : kind.tmod 3 = kind % 3 := Int.tmod_eq_emod_of_nonneg k0
  have ew : IntKind.i64.wrap (kind % 3) = kind % 3 := by rw [IntKind.wrap_i64]; omega
  have h0 := st_new W S
  have kk := (Only.refl (fun _ => False) W).alloc (.cells (rowOf 65 (stF S)) 27)
  go_enter Tryd.func3, Tryd.ntmps3
  go_wp2_with fail
  refine (known12_any (hT.kept kk) (Only.refl _ _)).mono ?_
  rintro e w1 ⟨rfl, kw⟩
  have k1 := kk.then kw
  have h1 := st_kept h0 kw
  have hr := h.kept k1
  clear h0 kk kw h
  go_wp2_with fail
  refine (few_any q n cap _).mono ?_
  rintro e wy ⟨rfl, hwy⟩
  rw [hwy]
  clear hwy wy
  by_cases hn : n ≤ 60
  · rw [decide_eq_true hn]
    go_wp2_with fail
    refine (both_row hr hn).mono ?_
    rintro e w2 ⟨pm, qm, pr, qr, B, rfl, d2⟩
    have h2 := st_kept h1 d2.k
    have d2 : Duo W w2 pm qm pr qr B B := ⟨d2.m, d2.r, k1.then d2.k, Nat.le_trans k1.size d2.hm, Nat.le_trans k1.size d2.hr, d2.n1, d2.n2, d2.n3⟩
    clear h1 hr k1
    have hS2 := cleanM_ok hS
    go_upto_region 7 with (first | (refine wpList_load_is (by rfl) 27 _ rfl rfl h2 _ Tryd.underlying27 rfl st_size ?_) | (go_at_call 11; refine (rclean_any S _).mono ?_; rintro e w3o ⟨rfl, k3⟩) | refine wpList_alloc_is rfl 27 rfl (rowOf 65 zF12) st_zero12 ?_ | (refine wpList_store_is rfl 27 _ _ rfl rfl rfl (row_alloc _ 65 zF12 _) st_size (fun i _ => stF_one _ i) ?_; rw [World.setRow_alloc_new]))
    generalize cleanM S = S2 at hS2 ⊢
    have h3 := st_new w3o S2
    have d3 := (d2.kept k3).kept ((Only.refl _ w3o).alloc (.cells (rowOf 65 (stF S2)) 27))
    clear h2 d2 k3
    try simp only [Act.put, List.setIfInBounds_toArray, List.set_cons_zero, List.set_cons_succ]
    generalize (w3o.alloc (.cells (rowOf 65 (stF S2)) 27)) = w3 at h3 d3 ⊢
    generalize hsb : w3o.heap.size = sb at h3 ⊢
    cases user
    · go_upto_region 10 with fail
      go_upto_region 11 with (first | (refine wpList_load_is (by rfl) 27 _ rfl rfl h3 _ Tryd.underlying27 rfl st_size ?_) | (go_at_call 12; refine (ttr_any (hT.kept d3.k) d3.m hS2 at_ (kind % 3) 1 vv hk3 ha).mono ?_; rintro e w4 ⟨rfl, k4⟩; generalize hX : trS B S2 at_ (kind % 3) 1 vv false = X) | (refine wpList_alloc_go rfl 36 rfl (entA entNone).toArray ent_zero' ?_; intro eb10 w10a n10a k10a m10a e10a) | (refine wpList_alloc_go rfl 38 rfl (fltA fltNone).toArray flt_zero' ?_; intro fb10 w10b n10b k10b m10b f10b) | (refine wpList_store_go rfl 36 _ _ rfl eb10 (entA X.e).toArray rfl rfl (k10b.block e10a id) (ent_size' _) ((ent_len _).trans (ent_len _).symm) (ent_ones' _) ?_; intro w10c o10c e10c) | (refine wpList_store_go rfl 38 _ _ rfl fb10 (fltA X.f).toArray rfl rfl (o10c.block f10b (by omega)) (flt_size' _) ((flt_len _).trans (flt_len _).symm) (flt_ones' _) ?_; intro w10d o10d f10d))
      have kk : Kept w3 w10d := (((k4.then k10a).then k10b).new o10c fun i hi => by have := k4.size; omega).new o10d fun i hi => by have := k4.size; omega
      have h4 := st_kept h3 kk
      have d4 := d3.kept kk
      have e4 : Blk w10d eb10 _ _ := e10c.past o10d (by omega)
      have f4 : Blk w10d fb10 _ _ := f10d
      clear h3 d3 k4 k10a k10b o10c o10d f10b e10a e10c f10d kk
      go_upto_region 12 with (first | (refine wpList_load_is (by rfl) 27 _ rfl rfl h4 _ Tryd.underlying27 rfl st_size ?_) | (go_at_call 13; refine (rtr_any hS2 at_ (kind % 3) 1 vv false hk3 ha d4.r).mono ?_; rintro e w5 ⟨tt, rfl, ot, k5⟩; rw [hX]; obtain ⟨xq, xn, xc, rfl⟩ := ot.form) | (refine wpList_alloc_go rfl 43 rfl (fndA 0 entNone fltNone false (.slice none 0 0)) fnd_zero ?_; intro gb w5a n5a k5a m5a g5a) | (refine wpList_store_go rfl 43 _ _ rfl gb (fndA X.p X.e X.f X.ok (.slice xq xn xc)) rfl rfl g5a (fnd_size _ _ _ _ _) ((fnd_len _ _ _ _ _).trans (fnd_len _ _ _ _ _).symm) (fnd_ones _ _ _ _ rfl) ?_; intro w5b o5b g5b))
      have kk : Kept w10d w5b := (k5.then k5a).new o5b fun i hi => by have := k5.size; omega
      have h5 := st_kept h4 kk
      have d5 := d4.kept kk
      have e5 := e4.kept kk
      have f5 := f4.kept kk
      clear h4 d4 e4 f4 k5 k5a o5b g5a kk ot
      go_upto_region 13 with (first | (refine wpList_load_is (by rfl) 27 _ rfl rfl h5 _ Tryd.underlying27 rfl st_size ?_) | (go_at_call 14; refine (rask_any hS2 1 true _).mono ?_; rintro e w6 ⟨rfl, k6⟩) | (refine wpList_alloc_go rfl 46 rfl (askA ⟨false, false, false, false, 0, 0, 0, 0⟩) ask_zero' ?_; intro ab w6a n6a k6a m6a a6a) | (refine wpList_store_go rfl 46 _ _ rfl ab (askA (askS S2 1 true)) rfl rfl a6a (ask_size _ _ _ _ _ _ _ _) ((ask_len _).trans (ask_len _).symm) (ask_ones _) ?_; intro w6b o6b a6b))
      have kk : Kept w5b w6b := (k6.then k6a).new o6b fun i hi => by have := k6.size; omega
      have h6 := st_kept h5 kk
      have d6 := d5.kept kk
      have e6 := e5.kept kk
      have f6 := f5.kept kk
      have g6 := g5b.kept kk
      clear h5 d5 e5 f5 g5b k6 k6a o6b a6a kk
      go_upto_region 14 with (first | (refine wpList_load_is (by rfl) 27 _ rfl rfl h6 _ Tryd.underlying27 rfl st_size ?_) | (go_at_call 15; refine (tguest_any (hT.kept d6.k) d6.m hS2 at_ (kind % 3) hk3 ha).mono ?_; rintro e w7 ⟨rfl, k7⟩))
      have h7 := st_kept h6 k7
      have d7 := d6.kept k7
      have e7 := e6.kept k7
      have f7 := f6.kept k7
      have g7 := g6.kept k7
      have a7 := a6b.kept k7
      clear h6 d6 e6 f6 g6 a6b k7
      go_upto_region 15 with (first | (refine wpList_load_blk (by rfl) 46 _ rfl ab rfl a7 _ Tryd.underlying46 rfl (ask_size _ _ _ _ _ _ _ _) ?_) | (go_at_call 16; refine (rguest_any (askS S2 1 true) at_ (kind % 3) false d7.r).mono ?_; rintro e w15 ⟨tv, rfl, og, k8⟩; obtain ⟨yq, yn, yc, rfl⟩ := og.form))
      have h15 := drewn12 (st_kept h7 k8)
      have k15 := (d7.kept k8).k.drew
      have e15 := (e7.kept k8).drewn
      have f15 := (f7.kept k8).drewn
      have d15 := (g7.kept k8).drewn
      clear h7 d7 e7 f7 g7 a7 k8 og
      generalize gstS B (askS S2 1 true) at_ (kind % 3) false = G
      have q1 := eq_ent X.e
      have q2 := eq_flt X.f
      have q3 := eq_ask (askS S2 1 vv)
      have q4 := eq_ask ⟨false, false, false, false, 0, 0, 0, 0⟩
      clear hX
      refine wp_region_held_drew (S := fun w2 => Kept w15.drew w2) (by kernel_rfl) (Only.refl _ _) (fun hHeld => ?_)
      refine wpAnyH_take (i := 0) (v := ?_) rfl (by kernel_rfl) (by kernel_rfl) (by kernel_rfl) (fun _ _ _ h => h) (Or.inl ⟨by rfl, ?_⟩) hHeld ?_
      rotate_left
      · intro w2 hSw
        go_simp
        all_goals rfl
      try simp only [Act.put, List.getElem_toArray, List.getElem_cons_zero, List.setIfInBounds_toArray, List.set_cons_zero, List.set_cons_succ]
      refine wpAnyH_take (i := 1) (v := ?_) rfl (by kernel_rfl) (by kernel_rfl) (by kernel_rfl) (fun _ _ _ h => h) (Or.inl ⟨by rfl, ?_⟩) hHeld ?_
      rotate_left
      · intro w2 hSw
        go_simp
        all_goals rfl
      try simp only [Act.put, List.getElem_toArray, List.getElem_cons_zero, List.getElem_cons_succ, List.setIfInBounds_toArray, List.set_cons_zero, List.set_cons_succ]
      refine wpAnyH_take (i := 2) (v := .int .u64 X.p) rfl (by kernel_rfl) (by kernel_rfl) (by kernel_rfl) (fun _ _ _ h => h) (Or.inl ⟨by rfl, ?_⟩) hHeld ?_
      · intro w2 hSw
        exact exec_load rfl rfl (run_loadVar_cell12 ((d15.kept hSw).cell 0) rfl Tryd.underlying23)
      try simp only [Act.put, List.getElem_toArray, List.getElem_cons_zero, List.getElem_cons_succ, List.setIfInBounds_toArray, List.set_cons_zero, List.set_cons_succ]
      refine wpAnyH_take (i := 3) (v := ?_) rfl (by kernel_rfl) (by kernel_rfl) (by kernel_rfl) (fun _ _ _ h => h) (Or.inl ⟨by rfl, ?_⟩) hHeld ?_
      rotate_left
      · intro w2 hSw
        go_simp
        all_goals rfl
      try simp only [Act.put, List.getElem_toArray, List.getElem_cons_zero, List.getElem_cons_succ, List.setIfInBounds_toArray, List.set_cons_zero, List.set_cons_succ]
      refine wpAnyH_take (i := 4) (v := ?_) rfl (by kernel_rfl) (by kernel_rfl) (by kernel_rfl) (fun _ _ _ h => h) (Or.inl ⟨by rfl, ?_⟩) hHeld ?_
      rotate_left
      · intro w2 hSw
        go_simp
        all_goals rfl
      try simp only [Act.put, List.getElem_toArray, List.getElem_cons_zero, List.getElem_cons_succ, List.setIfInBounds_toArray, List.set_cons_zero, List.set_cons_succ]
      refine wpAnyH_take (i := 5) (v := .agg (entA X.e).toArray) rfl (by kernel_rfl) (by kernel_rfl) (by kernel_rfl) (fun _ _ _ h => h) (Or.inl ⟨by rfl, ?_⟩) hHeld ?_
      · intro w2 hSw
        exact exec_load rfl rfl (load_ent12 (e15.kept hSw))
      try simp only [Act.put, List.getElem_toArray, List.getElem_cons_zero, List.getElem_cons_succ, List.setIfInBounds_toArray, List.set_cons_zero, List.set_cons_succ]
      refine wpAnyH_take (i := 6) (v := ?_) rfl (by kernel_rfl) (by kernel_rfl) (by kernel_rfl) (fun _ _ _ h => h) (Or.inl ⟨by rfl, ?_⟩) hHeld ?_
      rotate_left
      · intro w2 hSw
        go_simp
        all_goals rfl
      try simp only [Act.put, List.getElem_toArray, List.getElem_cons_zero, List.getElem_cons_succ, List.setIfInBounds_toArray, List.set_cons_zero, List.set_cons_succ]
      refine wpAnyH_take (i := 7) (v := .agg (entA X.e).toArray) rfl (by kernel_rfl) (by kernel_rfl) (by kernel_rfl) (fun _ _ _ h => h) (Or.inl ⟨by rfl, ?_⟩) hHeld ?_
      · intro w2 hSw
        exact exec_load rfl rfl (fnd_ent (d15.kept hSw))
      try simp only [Act.put, List.getElem_toArray, List.getElem_cons_zero, List.getElem_cons_succ, List.setIfInBounds_toArray, List.set_cons_zero, List.set_cons_succ]
      refine wpAnyH_take (i := 8) (v := ?_) rfl (by kernel_rfl) (by kernel_rfl) (by kernel_rfl) (fun _ _ _ h => h) (Or.inl ⟨by rfl, ?_⟩) hHeld ?_
      rotate_left
      · intro w2 hSw
        go_simp
        all_goals rfl
      try simp only [Act.put, List.getElem_toArray, List.getElem_cons_zero, List.getElem_cons_succ, List.setIfInBounds_toArray, List.set_cons_zero, List.set_cons_succ]
      refine wpAnyH_take (i := 9) (v := ?_) rfl (by kernel_rfl) (by kernel_rfl) (by kernel_rfl) (fun _ _ _ h => h) (Or.inl ⟨by rfl, ?_⟩) hHeld ?_
      rotate_left
      · intro w2 hSw
        go_simp
        all_goals rfl
      try simp only [Act.put, List.getElem_toArray, List.getElem_cons_zero, List.getElem_cons_succ, List.setIfInBounds_toArray, List.set_cons_zero, List.set_cons_succ]
      refine wpAnyH_take (i := 10) (v := ?_) rfl (by kernel_rfl) (by kernel_rfl) (by kernel_rfl) (fun _ _ _ h => h) (Or.inl ⟨by rfl, ?_⟩) hHeld ?_
      rotate_left
      · intro w2 hSw
        go_simp
        all_goals rfl
      try simp only [Act.put, List.getElem_toArray, List.getElem_cons_zero, List.getElem_cons_succ, List.setIfInBounds_toArray, List.set_cons_zero, List.set_cons_succ]
      refine wpAnyH_take (i := 11) (v := .agg (fltA X.f).toArray) rfl (by kernel_rfl) (by kernel_rfl) (by kernel_rfl) (fun _ _ _ h => h) (Or.inl ⟨by rfl, ?_⟩) hHeld ?_
      · intro w2 hSw
        exact exec_load rfl rfl (load_flt12 (f15.kept hSw))
      try simp only [Act.put, List.getElem_toArray, List.getElem_cons_zero, List.getElem_cons_succ, List.setIfInBounds_toArray, List.set_cons_zero, List.set_cons_succ]
      refine wpAnyH_take (i := 12) (v := ?_) rfl (by kernel_rfl) (by kernel_rfl) (by kernel_rfl) (fun _ _ _ h => h) (Or.inl ⟨by rfl, ?_⟩) hHeld ?_
      rotate_left
      · intro w2 hSw
        go_simp
        all_goals rfl
      try simp only [Act.put, List.getElem_toArray, List.getElem_cons_zero, List.getElem_cons_succ, List.setIfInBounds_toArray, List.set_cons_zero, List.set_cons_succ]
      refine wpAnyH_take (i := 13) (v := .agg (fltA X.f).toArray) rfl (by kernel_rfl) (by kernel_rfl) (by kernel_rfl) (fun _ _ _ h => h) (Or.inl ⟨by rfl, ?_⟩) hHeld ?_
      · intro w2 hSw
        exact exec_load rfl rfl (fnd_flt (d15.kept hSw))
      try simp only [Act.put, List.getElem_toArray, List.getElem_cons_zero, List.getElem_cons_succ, List.setIfInBounds_toArray, List.set_cons_zero, List.set_cons_succ]
      refine wpAnyH_take (i := 14) (v := ?_) rfl (by kernel_rfl) (by kernel_rfl) (by kernel_rfl) (fun _ _ _ h => h) (Or.inl ⟨by rfl, ?_⟩) hHeld ?_
      rotate_left
      · intro w2 hSw
        go_simp
        all_goals rfl
      try simp only [Act.put, List.getElem_toArray, List.getElem_cons_zero, List.getElem_cons_succ, List.setIfInBounds_toArray, List.set_cons_zero, List.set_cons_succ]
      refine wpAnyH_take (i := 15) (v := ?_) rfl (by kernel_rfl) (by kernel_rfl) (by kernel_rfl) (fun _ _ _ h => h) (Or.inl ⟨by rfl, ?_⟩) hHeld ?_
      rotate_left
      · intro w2 hSw
        go_simp
        all_goals rfl
      try simp only [Act.put, List.getElem_toArray, List.getElem_cons_zero, List.getElem_cons_succ, List.setIfInBounds_toArray, List.set_cons_zero, List.set_cons_succ]
      refine wpAnyH_take (i := 16) (v := ?_) rfl (by kernel_rfl) (by kernel_rfl) (by kernel_rfl) (fun _ _ _ h => h) (Or.inl ⟨by rfl, ?_⟩) hHeld ?_
      rotate_left
      · intro w2 hSw
        go_simp
        all_goals rfl
      try simp only [Act.put, List.getElem_toArray, List.getElem_cons_zero, List.getElem_cons_succ, List.setIfInBounds_toArray, List.set_cons_zero, List.set_cons_succ]
      refine wpAnyH_take (i := 17) (v := ?_) rfl (by kernel_rfl) (by kernel_rfl) (by kernel_rfl) (fun _ _ _ h => h) (Or.inl ⟨by rfl, ?_⟩) hHeld ?_
      rotate_left
      · intro w2 hSw
        go_simp
        all_goals rfl
      try simp only [Act.put, List.getElem_toArray, List.getElem_cons_zero, List.getElem_cons_succ, List.setIfInBounds_toArray, List.set_cons_zero, List.set_cons_succ]
      refine wpAnyH_take (i := 18) (v := ?_) rfl (by kernel_rfl) (by kernel_rfl) (by kernel_rfl) (fun _ _ _ h => h) (Or.inl ⟨by rfl, ?_⟩) hHeld ?_
      rotate_left
      · intro w2 hSw
        go_simp
        all_goals rfl
      try simp only [Act.put, List.getElem_toArray, List.getElem_cons_zero, List.getElem_cons_succ, List.setIfInBounds_toArray, List.set_cons_zero, List.set_cons_succ]
      refine wpAnyH_take (i := 19) (v := .bool X.ok) rfl (by kernel_rfl) (by kernel_rfl) (by kernel_rfl) (fun _ _ _ h => h) (Or.inl ⟨by rfl, ?_⟩) hHeld ?_
      · intro w2 hSw
        exact exec_load rfl rfl (run_loadVar_cell12 ((d15.kept hSw).cell 14) rfl Tryd.underlying4)
      try simp only [Act.put, List.getElem_toArray, List.getElem_cons_zero, List.getElem_cons_succ, List.setIfInBounds_toArray, List.set_cons_zero, List.set_cons_succ]
      refine wpAnyH_take (i := 20) (v := ?_) rfl (by kernel_rfl) (by kernel_rfl) (by kernel_rfl) (fun _ _ _ h => h) (Or.inl ⟨by rfl, ?_⟩) hHeld ?_
      rotate_left
      · intro w2 hSw
        go_simp
        all_goals rfl
      try simp only [Act.put, List.getElem_toArray, List.getElem_cons_zero, List.getElem_cons_succ, List.setIfInBounds_toArray, List.set_cons_zero, List.set_cons_succ]
      refine wpAnyH_take (i := 21) (v := ?_) rfl (by kernel_rfl) (by kernel_rfl) (by kernel_rfl) (fun _ _ _ h => h) (Or.inl ⟨by rfl, ?_⟩) hHeld ?_
      rotate_left
      · intro w2 hSw
        go_simp
        all_goals rfl
      try simp only [Act.put, List.getElem_toArray, List.getElem_cons_zero, List.getElem_cons_succ, List.setIfInBounds_toArray, List.set_cons_zero, List.set_cons_succ]
      refine wpAnyH_take (i := 22) (v := ?_) rfl (by kernel_rfl) (by kernel_rfl) (by kernel_rfl) (fun _ _ _ h => h) (Or.inl ⟨by rfl, ?_⟩) hHeld ?_
      rotate_left
      · intro w2 hSw
        go_simp
        all_goals rfl
      try simp only [Act.put, List.getElem_toArray, List.getElem_cons_zero, List.getElem_cons_succ, List.setIfInBounds_toArray, List.set_cons_zero, List.set_cons_succ]
      refine wpAnyH_take (i := 23) (v := .agg (rowOf 65 (stF S2))) rfl (by kernel_rfl) (by kernel_rfl) (by kernel_rfl) (fun _ _ _ h => h) (Or.inl ⟨by rfl, ?_⟩) hHeld ?_
      · intro w2 hSw
        exact exec_load rfl rfl (load_state12 (st_kept h15 hSw))
      try simp only [Act.put, List.getElem_toArray, List.getElem_cons_zero, List.getElem_cons_succ, List.setIfInBounds_toArray, List.set_cons_zero, List.set_cons_succ]
      refine wpAnyH_take (i := 24) (v := ?_) rfl (by kernel_rfl) (by kernel_rfl) (by kernel_rfl) (fun _ _ _ h => h) (Or.inl ⟨by rfl, ?_⟩) hHeld ?_
      rotate_left
      · intro w2 hSw
        go_simp
        all_goals rfl
      try simp only [Act.put, List.getElem_toArray, List.getElem_cons_zero, List.getElem_cons_succ, List.setIfInBounds_toArray, List.set_cons_zero, List.set_cons_succ]
      refine wpAnyH_take (i := 25) (v := ?_) rfl (by kernel_rfl) (by kernel_rfl) (by kernel_rfl) (fun _ _ _ h => h) (Or.inl ⟨by rfl, ?_⟩) hHeld ?_
      rotate_left
      · intro w2 hSw
        go_simp
        all_goals rfl
      try simp only [Act.put, List.getElem_toArray, List.getElem_cons_zero, List.getElem_cons_succ, List.setIfInBounds_toArray, List.set_cons_zero, List.set_cons_succ]
      refine wpAnyH_take (i := 27) (v := .agg (rowOf 65 (stF S2))) rfl (by kernel_rfl) (by kernel_rfl) (by kernel_rfl) (fun _ _ _ h => h) (Or.inl ⟨by rfl, ?_⟩) hHeld ?_
      · intro w2 hSw
        exact exec_load rfl rfl (load_state12 (st_kept h15 hSw))
      try simp only [Act.put, List.getElem_toArray, List.getElem_cons_zero, List.getElem_cons_succ, List.setIfInBounds_toArray, List.set_cons_zero, List.set_cons_succ]
      refine wpAnyH_take (i := 28) (v := ?_) rfl (by kernel_rfl) (by kernel_rfl) (by kernel_rfl) (fun _ _ _ h => h) (Or.inl ⟨by rfl, ?_⟩) hHeld ?_
      rotate_left
      · intro w2 hSw
        go_simp
        all_goals rfl
      try simp only [Act.put, List.getElem_toArray, List.getElem_cons_zero, List.getElem_cons_succ, List.setIfInBounds_toArray, List.set_cons_zero, List.set_cons_succ]
      refine wpAnyH_take (i := 29) (v := ?_) rfl (by kernel_rfl) (by kernel_rfl) (by kernel_rfl) (fun _ _ _ h => h) (Or.inl ⟨by rfl, ?_⟩) hHeld ?_
      rotate_left
      · intro w2 hSw
        go_simp
        all_goals rfl
      try simp only [Act.put, List.getElem_toArray, List.getElem_cons_zero, List.getElem_cons_succ, List.setIfInBounds_toArray, List.set_cons_zero, List.set_cons_succ]
      refine wpAnyH_ready (rs := [26]) (by kernel_rfl) (by simp) ?_
      refine AllReadyH.cons rfl (fun K hK => ?_) AllReadyH.nil
      go_simp
      refine (task_any (hT.kept (k15.then hHeld)) hS2 1 vv).mono ?_
      rintro e wn ⟨rfl, kn⟩
      go_simp
      refine hK.out _ _ (hHeld.then kn) (fun hHeld => ?_)
      clear hK K kn
      try simp only [Act.put, List.setIfInBounds_toArray, List.set_cons_zero, List.set_cons_succ]
      refine wpAnyH_ready (rs := [30]) (by kernel_rfl) (by simp) ?_
      refine AllReadyH.cons rfl (fun K hK => ?_) AllReadyH.nil
      go_simp
      refine (rask_any hS2 1 vv _).mono ?_
      rintro e wn ⟨rfl, kn⟩
      go_simp
      refine hK.out _ _ (hHeld.then kn) (fun hHeld => ?_)
      clear hK K kn
      try simp only [Act.put, List.setIfInBounds_toArray, List.set_cons_zero, List.set_cons_succ]
      refine wpAnyH_take (i := 31) (v := ?_) rfl (by kernel_rfl) (by kernel_rfl) (by kernel_rfl) (fun _ _ _ h => h) (Or.inl ⟨by rfl, ?_⟩) hHeld ?_
      rotate_left
      · intro w2 hSw
        go_simp
        all_goals rfl
      try simp only [Act.put, List.getElem_toArray, List.getElem_cons_zero, List.getElem_cons_succ, List.setIfInBounds_toArray, List.set_cons_zero, List.set_cons_succ]
      refine wpAnyH_take (i := 32) (v := ?_) rfl (by kernel_rfl) (by kernel_rfl) (by kernel_rfl) (fun _ _ _ h => h) (Or.inl ⟨by rfl, ?_⟩) hHeld ?_
      rotate_left
      · intro w2 hSw
        go_simp
        all_goals rfl
      try simp only [Act.put, List.getElem_toArray, List.getElem_cons_zero, List.getElem_cons_succ, List.setIfInBounds_toArray, List.set_cons_zero, List.set_cons_succ]
      refine wpAnyH_take (i := 33) (v := ?_) rfl (by kernel_rfl) (by kernel_rfl) (by kernel_rfl) (fun _ _ _ h => h) (Or.inl ⟨by rfl, ?_⟩) hHeld ?_
      rotate_left
      · intro w2 hSw
        go_simp
        all_goals rfl
      try simp only [Act.put, List.getElem_toArray, List.getElem_cons_zero, List.getElem_cons_succ, List.setIfInBounds_toArray, List.set_cons_zero, List.set_cons_succ]
      refine wpAnyH_take (i := 34) (v := .agg (rowOf 65 (stF S2))) rfl (by kernel_rfl) (by kernel_rfl) (by kernel_rfl) (fun _ _ _ h => h) (Or.inl ⟨by rfl, ?_⟩) hHeld ?_
      · intro w2 hSw
        exact exec_load rfl rfl (load_state12 (st_kept h15 hSw))
      try simp only [Act.put, List.getElem_toArray, List.getElem_cons_zero, List.getElem_cons_succ, List.setIfInBounds_toArray, List.set_cons_zero, List.set_cons_succ]
      refine wpAnyH_take (i := 35) (v := ?_) rfl (by kernel_rfl) (by kernel_rfl) (by kernel_rfl) (fun _ _ _ h => h) (Or.inl ⟨by rfl, ?_⟩) hHeld ?_
      rotate_left
      · intro w2 hSw
        go_simp
        all_goals rfl
      try simp only [Act.put, List.getElem_toArray, List.getElem_cons_zero, List.getElem_cons_succ, List.setIfInBounds_toArray, List.set_cons_zero, List.set_cons_succ]
      refine wpAnyH_take (i := 37) (v := .agg (askA ⟨false, false, false, false, 0, 0, 0, 0⟩)) rfl (by kernel_rfl) (by kernel_rfl) (by kernel_rfl) (fun _ _ _ h => h) (Or.inl ⟨by rfl, ?_⟩) hHeld ?_
      · intro w2 hSw
        exact exec_build rfl _ rfl (askA ⟨false, false, false, false, 0, 0, 0, 0⟩) (by kernel_rfl)
      try simp only [Act.put, List.getElem_toArray, List.getElem_cons_zero, List.getElem_cons_succ, List.setIfInBounds_toArray, List.set_cons_zero, List.set_cons_succ]
      refine wpAnyH_ready (rs := [36]) (by kernel_rfl) (by simp) ?_
      refine AllReadyH.cons rfl (fun K hK => ?_) AllReadyH.nil
      go_simp
      refine (task_any (hT.kept (k15.then hHeld)) hS2 3 vv).mono ?_
      rintro e wn ⟨rfl, kn⟩
      rw [ask_mach]
      go_simp
      refine hK.out _ _ (hHeld.then kn) (fun hHeld => ?_)
      clear hK K kn
      try simp only [Act.put, List.setIfInBounds_toArray, List.set_cons_zero, List.set_cons_succ]
      refine wpAnyH_take (i := 38) (v := ?_) rfl (by kernel_rfl) (by kernel_rfl) (by kernel_rfl) (fun _ _ _ h => h) (Or.inl ⟨by rfl, ?_⟩) hHeld ?_
      rotate_left
      · intro w2 hSw
        go_simp
        all_goals rfl
      try simp only [Act.put, List.getElem_toArray, List.getElem_cons_zero, List.getElem_cons_succ, List.setIfInBounds_toArray, List.set_cons_zero, List.set_cons_succ]
      refine wpAnyH_take (i := 39) (v := ?_) rfl (by kernel_rfl) (by kernel_rfl) (by kernel_rfl) (fun _ _ _ h => h) (Or.inl ⟨by rfl, ?_⟩) hHeld ?_
      rotate_left
      · intro w2 hSw
        go_simp
        all_goals rfl
      try simp only [Act.put, List.getElem_toArray, List.getElem_cons_zero, List.getElem_cons_succ, List.setIfInBounds_toArray, List.set_cons_zero, List.set_cons_succ]
      refine wpAnyH_take (i := 40) (v := ?_) rfl (by kernel_rfl) (by kernel_rfl) (by kernel_rfl) (fun _ _ _ h => h) (Or.inl ⟨by rfl, ?_⟩) hHeld ?_
      rotate_left
      · intro w2 hSw
        go_simp
        all_goals rfl
      try simp only [Act.put, List.getElem_toArray, List.getElem_cons_zero, List.getElem_cons_succ, List.setIfInBounds_toArray, List.set_cons_zero, List.set_cons_succ]
      refine wpAnyH_take (i := 41) (v := ?_) rfl (by kernel_rfl) (by kernel_rfl) (by kernel_rfl) (fun _ _ _ h => h) (Or.inl ⟨by rfl, ?_⟩) hHeld ?_
      rotate_left
      · intro w2 hSw
        go_simp
        all_goals rfl
      try simp only [Act.put, List.getElem_toArray, List.getElem_cons_zero, List.getElem_cons_succ, List.setIfInBounds_toArray, List.set_cons_zero, List.set_cons_succ]
      refine wpAnyH_take (i := 42) (v := ?_) rfl (by kernel_rfl) (by kernel_rfl) (by kernel_rfl) (fun _ _ _ h => h) (Or.inl ⟨by rfl, ?_⟩) hHeld ?_
      rotate_left
      · intro w2 hSw
        go_simp
        all_goals rfl
      try simp only [Act.put, List.getElem_toArray, List.getElem_cons_zero, List.getElem_cons_succ, List.setIfInBounds_toArray, List.set_cons_zero, List.set_cons_succ]
      refine wpAnyH_take (i := 43) (v := ?_) rfl (by kernel_rfl) (by kernel_rfl) (by kernel_rfl) (fun _ _ _ h => h) (Or.inl ⟨by rfl, ?_⟩) hHeld ?_
      rotate_left
      · intro w2 hSw
        go_simp
        all_goals rfl
      try simp only [Act.put, List.getElem_toArray, List.getElem_cons_zero, List.getElem_cons_succ, List.setIfInBounds_toArray, List.set_cons_zero, List.set_cons_succ]
      refine wpAnyH_take (i := 44) (v := ?_) rfl (by kernel_rfl) (by kernel_rfl) (by kernel_rfl) (fun _ _ _ h => h) (Or.inl ⟨by rfl, ?_⟩) hHeld ?_
      rotate_left
      · intro w2 hSw
        go_simp
        all_goals rfl
      try simp only [Act.put, List.getElem_toArray, List.getElem_cons_zero, List.getElem_cons_succ, List.setIfInBounds_toArray, List.set_cons_zero, List.set_cons_succ]
      refine wpAnyH_take (i := 45) (v := ?_) rfl (by kernel_rfl) (by kernel_rfl) (by kernel_rfl) (fun _ _ _ h => h) (Or.inl ⟨by rfl, ?_⟩) hHeld ?_
      rotate_left
      · intro w2 hSw
        go_simp
        all_goals rfl
      try simp only [Act.put, List.getElem_toArray, List.getElem_cons_zero, List.getElem_cons_succ, List.setIfInBounds_toArray, List.set_cons_zero, List.set_cons_succ]
      refine wpAnyH_take (i := 46) (v := ?_) rfl (by kernel_rfl) (by kernel_rfl) (by kernel_rfl) (fun _ _ _ h => h) (Or.inl ⟨by rfl, ?_⟩) hHeld ?_
      rotate_left
      · intro w2 hSw
        go_simp
        all_goals rfl
      try simp only [Act.put, List.getElem_toArray, List.getElem_cons_zero, List.getElem_cons_succ, List.setIfInBounds_toArray, List.set_cons_zero, List.set_cons_succ]
      refine wpAnyH_take (i := 47) (v := ?_) rfl (by kernel_rfl) (by kernel_rfl) (by kernel_rfl) (fun _ _ _ h => h) (Or.inl ⟨by rfl, ?_⟩) hHeld ?_
      rotate_left
      · intro w2 hSw
        go_simp
        all_goals rfl
      try simp only [Act.put, List.getElem_toArray, List.getElem_cons_zero, List.getElem_cons_succ, List.setIfInBounds_toArray, List.set_cons_zero, List.set_cons_succ]
      refine wpAnyH_take (i := 48) (v := ?_) rfl (by kernel_rfl) (by kernel_rfl) (by kernel_rfl) (fun _ _ _ h => h) (Or.inl ⟨by rfl, ?_⟩) hHeld ?_
      rotate_left
      · intro w2 hSw
        go_simp
        all_goals rfl
      try simp only [Act.put, List.getElem_toArray, List.getElem_cons_zero, List.getElem_cons_succ, List.setIfInBounds_toArray, List.set_cons_zero, List.set_cons_succ]
      refine wpAnyH_take (i := 49) (v := ?_) rfl (by kernel_rfl) (by kernel_rfl) (by kernel_rfl) (fun _ _ _ h => h) (Or.inl ⟨by rfl, ?_⟩) hHeld ?_
      rotate_left
      · intro w2 hSw
        go_simp
        all_goals rfl
      try simp only [Act.put, List.getElem_toArray, List.getElem_cons_zero, List.getElem_cons_succ, List.setIfInBounds_toArray, List.set_cons_zero, List.set_cons_succ]
      refine wpAnyH_take (i := 50) (v := ?_) rfl (by kernel_rfl) (by kernel_rfl) (by kernel_rfl) (fun _ _ _ h => h) (Or.inl ⟨by rfl, ?_⟩) hHeld ?_
      rotate_left
      · intro w2 hSw
        go_simp
        all_goals rfl
      try simp only [Act.put, List.getElem_toArray, List.getElem_cons_zero, List.getElem_cons_succ, List.setIfInBounds_toArray, List.set_cons_zero, List.set_cons_succ]
      refine wpAnyH_done (by kernel_rfl) ?_ _
      go_wp2
      go_ret
      exact ⟨rfl, k15.then hHeld⟩
    · go_upto_region 10 with fail
      go_upto_region 11 with (first | (refine wpList_load_is (by rfl) 27 _ rfl rfl h3 _ Tryd.underlying27 rfl st_size ?_) | (go_at_call 12; refine (ttr_any (hT.kept d3.k) d3.m hS2 at_ (kind % 3) 0 vv hk3 ha).mono ?_; rintro e w4 ⟨rfl, k4⟩; generalize hX : trS B S2 at_ (kind % 3) 0 vv false = X) | (refine wpList_alloc_go rfl 36 rfl (entA entNone).toArray ent_zero' ?_; intro eb10 w10a n10a k10a m10a e10a) | (refine wpList_alloc_go rfl 38 rfl (fltA fltNone).toArray flt_zero' ?_; intro fb10 w10b n10b k10b m10b f10b) | (refine wpList_store_go rfl 36 _ _ rfl eb10 (entA X.e).toArray rfl rfl (k10b.block e10a id) (ent_size' _) ((ent_len _).trans (ent_len _).symm) (ent_ones' _) ?_; intro w10c o10c e10c) | (refine wpList_store_go rfl 38 _ _ rfl fb10 (fltA X.f).toArray rfl rfl (o10c.block f10b (by omega)) (flt_size' _) ((flt_len _).trans (flt_len _).symm) (flt_ones' _) ?_; intro w10d o10d f10d))
      have kk : Kept w3 w10d := (((k4.then k10a).then k10b).new o10c fun i hi => by have := k4.size; omega).new o10d fun i hi => by have := k4.size; omega
      have h4 := st_kept h3 kk
      have d4 := d3.kept kk
      have e4 : Blk w10d eb10 _ _ := e10c.past o10d (by omega)
      have f4 : Blk w10d fb10 _ _ := f10d
      clear h3 d3 k4 k10a k10b o10c o10d f10b e10a e10c f10d kk
      go_upto_region 12 with (first | (refine wpList_load_is (by rfl) 27 _ rfl rfl h4 _ Tryd.underlying27 rfl st_size ?_) | (go_at_call 13; refine (rtr_any hS2 at_ (kind % 3) 0 vv false hk3 ha d4.r).mono ?_; rintro e w5 ⟨tt, rfl, ot, k5⟩; rw [hX]; obtain ⟨xq, xn, xc, rfl⟩ := ot.form) | (refine wpList_alloc_go rfl 43 rfl (fndA 0 entNone fltNone false (.slice none 0 0)) fnd_zero ?_; intro gb w5a n5a k5a m5a g5a) | (refine wpList_store_go rfl 43 _ _ rfl gb (fndA X.p X.e X.f X.ok (.slice xq xn xc)) rfl rfl g5a (fnd_size _ _ _ _ _) ((fnd_len _ _ _ _ _).trans (fnd_len _ _ _ _ _).symm) (fnd_ones _ _ _ _ rfl) ?_; intro w5b o5b g5b))
      have kk : Kept w10d w5b := (k5.then k5a).new o5b fun i hi => by have := k5.size; omega
      have h5 := st_kept h4 kk
      have d5 := d4.kept kk
      have e5 := e4.kept kk
      have f5 := f4.kept kk
      clear h4 d4 e4 f4 k5 k5a o5b g5a kk ot
      go_upto_region 13 with (first | (refine wpList_load_is (by rfl) 27 _ rfl rfl h5 _ Tryd.underlying27 rfl st_size ?_) | (go_at_call 14; refine (rask_any hS2 0 true _).mono ?_; rintro e w6 ⟨rfl, k6⟩) | (refine wpList_alloc_go rfl 46 rfl (askA ⟨false, false, false, false, 0, 0, 0, 0⟩) ask_zero' ?_; intro ab w6a n6a k6a m6a a6a) | (refine wpList_store_go rfl 46 _ _ rfl ab (askA (askS S2 0 true)) rfl rfl a6a (ask_size _ _ _ _ _ _ _ _) ((ask_len _).trans (ask_len _).symm) (ask_ones _) ?_; intro w6b o6b a6b))
      have kk : Kept w5b w6b := (k6.then k6a).new o6b fun i hi => by have := k6.size; omega
      have h6 := st_kept h5 kk
      have d6 := d5.kept kk
      have e6 := e5.kept kk
      have f6 := f5.kept kk
      have g6 := g5b.kept kk
      clear h5 d5 e5 f5 g5b k6 k6a o6b a6a kk
      go_upto_region 14 with (first | (refine wpList_load_is (by rfl) 27 _ rfl rfl h6 _ Tryd.underlying27 rfl st_size ?_) | (go_at_call 15; refine (tguest_any (hT.kept d6.k) d6.m hS2 at_ (kind % 3) hk3 ha).mono ?_; rintro e w7 ⟨rfl, k7⟩))
      have h7 := st_kept h6 k7
      have d7 := d6.kept k7
      have e7 := e6.kept k7
      have f7 := f6.kept k7
      have g7 := g6.kept k7
      have a7 := a6b.kept k7
      clear h6 d6 e6 f6 g6 a6b k7
      go_upto_region 15 with (first | (refine wpList_load_blk (by rfl) 46 _ rfl ab rfl a7 _ Tryd.underlying46 rfl (ask_size _ _ _ _ _ _ _ _) ?_) | (go_at_call 16; refine (rguest_any (askS S2 0 true) at_ (kind % 3) false d7.r).mono ?_; rintro e w15 ⟨tv, rfl, og, k8⟩; rw [ask_lvl]; obtain ⟨yq, yn, yc, rfl⟩ := og.form))
      have h15 := drewn12 (st_kept h7 k8)
      have k15 := (d7.kept k8).k.drew
      have e15 := (e7.kept k8).drewn
      have f15 := (f7.kept k8).drewn
      have d15 := (g7.kept k8).drewn
      clear h7 d7 e7 f7 g7 a7 k8 og
      generalize gstS B (askS S2 1 true) at_ (kind % 3) false = G
      have q1 := eq_ent X.e
      have q2 := eq_flt X.f
      have q3 := eq_ask (askS S2 0 vv)
      have q4 := eq_ask ⟨false, false, false, false, 0, 0, 0, 0⟩
      clear hX
      refine wp_region_held_drew (S := fun w2 => Kept w15.drew w2) (by kernel_rfl) (Only.refl _ _) (fun hHeld => ?_)
      refine wpAnyH_take (i := 0) (v := ?_) rfl (by kernel_rfl) (by kernel_rfl) (by kernel_rfl) (fun _ _ _ h => h) (Or.inl ⟨by rfl, ?_⟩) hHeld ?_
      rotate_left
      · intro w2 hSw
        go_simp
        all_goals rfl
      try simp only [Act.put, List.getElem_toArray, List.getElem_cons_zero, List.setIfInBounds_toArray, List.set_cons_zero, List.set_cons_succ]
      refine wpAnyH_take (i := 1) (v := ?_) rfl (by kernel_rfl) (by kernel_rfl) (by kernel_rfl) (fun _ _ _ h => h) (Or.inl ⟨by rfl, ?_⟩) hHeld ?_
      rotate_left
      · intro w2 hSw
        go_simp
        all_goals rfl
      try simp only [Act.put, List.getElem_toArray, List.getElem_cons_zero, List.getElem_cons_succ, List.setIfInBounds_toArray, List.set_cons_zero, List.set_cons_succ]
      refine wpAnyH_take (i := 2) (v := .int .u64 X.p) rfl (by kernel_rfl) (by kernel_rfl) (by kernel_rfl) (fun _ _ _ h => h) (Or.inl ⟨by rfl, ?_⟩) hHeld ?_
      · intro w2 hSw
        exact exec_load rfl rfl (run_loadVar_cell12 ((d15.kept hSw).cell 0) rfl Tryd.underlying23)
      try simp only [Act.put, List.getElem_toArray, List.getElem_cons_zero, List.getElem_cons_succ, List.setIfInBounds_toArray, List.set_cons_zero, List.set_cons_succ]
      refine wpAnyH_take (i := 3) (v := ?_) rfl (by kernel_rfl) (by kernel_rfl) (by kernel_rfl) (fun _ _ _ h => h) (Or.inl ⟨by rfl, ?_⟩) hHeld ?_
      rotate_left
      · intro w2 hSw
        go_simp
        all_goals rfl
      try simp only [Act.put, List.getElem_toArray, List.getElem_cons_zero, List.getElem_cons_succ, List.setIfInBounds_toArray, List.set_cons_zero, List.set_cons_succ]
      refine wpAnyH_take (i := 4) (v := ?_) rfl (by kernel_rfl) (by kernel_rfl) (by kernel_rfl) (fun _ _ _ h => h) (Or.inl ⟨by rfl, ?_⟩) hHeld ?_
      rotate_left
      · intro w2 hSw
        go_simp
        all_goals rfl
      try simp only [Act.put, List.getElem_toArray, List.getElem_cons_zero, List.getElem_cons_succ, List.setIfInBounds_toArray, List.set_cons_zero, List.set_cons_succ]
      refine wpAnyH_take (i := 5) (v := .agg (entA X.e).toArray) rfl (by kernel_rfl) (by kernel_rfl) (by kernel_rfl) (fun _ _ _ h => h) (Or.inl ⟨by rfl, ?_⟩) hHeld ?_
      · intro w2 hSw
        exact exec_load rfl rfl (load_ent12 (e15.kept hSw))
      try simp only [Act.put, List.getElem_toArray, List.getElem_cons_zero, List.getElem_cons_succ, List.setIfInBounds_toArray, List.set_cons_zero, List.set_cons_succ]
      refine wpAnyH_take (i := 6) (v := ?_) rfl (by kernel_rfl) (by kernel_rfl) (by kernel_rfl) (fun _ _ _ h => h) (Or.inl ⟨by rfl, ?_⟩) hHeld ?_
      rotate_left
      · intro w2 hSw
        go_simp
        all_goals rfl
      try simp only [Act.put, List.getElem_toArray, List.getElem_cons_zero, List.getElem_cons_succ, List.setIfInBounds_toArray, List.set_cons_zero, List.set_cons_succ]
      refine wpAnyH_take (i := 7) (v := .agg (entA X.e).toArray) rfl (by kernel_rfl) (by kernel_rfl) (by kernel_rfl) (fun _ _ _ h => h) (Or.inl ⟨by rfl, ?_⟩) hHeld ?_
      · intro w2 hSw
        exact exec_load rfl rfl (fnd_ent (d15.kept hSw))
      try simp only [Act.put, List.getElem_toArray, List.getElem_cons_zero, List.getElem_cons_succ, List.setIfInBounds_toArray, List.set_cons_zero, List.set_cons_succ]
      refine wpAnyH_take (i := 8) (v := ?_) rfl (by kernel_rfl) (by kernel_rfl) (by kernel_rfl) (fun _ _ _ h => h) (Or.inl ⟨by rfl, ?_⟩) hHeld ?_
      rotate_left
      · intro w2 hSw
        go_simp
        all_goals rfl
      try simp only [Act.put, List.getElem_toArray, List.getElem_cons_zero, List.getElem_cons_succ, List.setIfInBounds_toArray, List.set_cons_zero, List.set_cons_succ]
      refine wpAnyH_take (i := 9) (v := ?_) rfl (by kernel_rfl) (by kernel_rfl) (by kernel_rfl) (fun _ _ _ h => h) (Or.inl ⟨by rfl, ?_⟩) hHeld ?_
      rotate_left
      · intro w2 hSw
        go_simp
        all_goals rfl
      try simp only [Act.put, List.getElem_toArray, List.getElem_cons_zero, List.getElem_cons_succ, List.setIfInBounds_toArray, List.set_cons_zero, List.set_cons_succ]
      refine wpAnyH_take (i := 10) (v := ?_) rfl (by kernel_rfl) (by kernel_rfl) (by kernel_rfl) (fun _ _ _ h => h) (Or.inl ⟨by rfl, ?_⟩) hHeld ?_
      rotate_left
      · intro w2 hSw
        go_simp
        all_goals rfl
      try simp only [Act.put, List.getElem_toArray, List.getElem_cons_zero, List.getElem_cons_succ, List.setIfInBounds_toArray, List.set_cons_zero, List.set_cons_succ]
      refine wpAnyH_take (i := 11) (v := .agg (fltA X.f).toArray) rfl (by kernel_rfl) (by kernel_rfl) (by kernel_rfl) (fun _ _ _ h => h) (Or.inl ⟨by rfl, ?_⟩) hHeld ?_
      · intro w2 hSw
        exact exec_load rfl rfl (load_flt12 (f15.kept hSw))
      try simp only [Act.put, List.getElem_toArray, List.getElem_cons_zero, List.getElem_cons_succ, List.setIfInBounds_toArray, List.set_cons_zero, List.set_cons_succ]
      refine wpAnyH_take (i := 12) (v := ?_) rfl (by kernel_rfl) (by kernel_rfl) (by kernel_rfl) (fun _ _ _ h => h) (Or.inl ⟨by rfl, ?_⟩) hHeld ?_
      rotate_left
      · intro w2 hSw
        go_simp
        all_goals rfl
      try simp only [Act.put, List.getElem_toArray, List.getElem_cons_zero, List.getElem_cons_succ, List.setIfInBounds_toArray, List.set_cons_zero, List.set_cons_succ]
      refine wpAnyH_take (i := 13) (v := .agg (fltA X.f).toArray) rfl (by kernel_rfl) (by kernel_rfl) (by kernel_rfl) (fun _ _ _ h => h) (Or.inl ⟨by rfl, ?_⟩) hHeld ?_
      · intro w2 hSw
        exact exec_load rfl rfl (fnd_flt (d15.kept hSw))
      try simp only [Act.put, List.getElem_toArray, List.getElem_cons_zero, List.getElem_cons_succ, List.setIfInBounds_toArray, List.set_cons_zero, List.set_cons_succ]
      refine wpAnyH_take (i := 14) (v := ?_) rfl (by kernel_rfl) (by kernel_rfl) (by kernel_rfl) (fun _ _ _ h => h) (Or.inl ⟨by rfl, ?_⟩) hHeld ?_
      rotate_left
      · intro w2 hSw
        go_simp
        all_goals rfl
      try simp only [Act.put, List.getElem_toArray, List.getElem_cons_zero, List.getElem_cons_succ, List.setIfInBounds_toArray, List.set_cons_zero, List.set_cons_succ]
      refine wpAnyH_take (i := 15) (v := ?_) rfl (by kernel_rfl) (by kernel_rfl) (by kernel_rfl) (fun _ _ _ h => h) (Or.inl ⟨by rfl, ?_⟩) hHeld ?_
      rotate_left
      · intro w2 hSw
        go_simp
        all_goals rfl
      try simp only [Act.put, List.getElem_toArray, List.getElem_cons_zero, List.getElem_cons_succ, List.setIfInBounds_toArray, List.set_cons_zero, List.set_cons_succ]
      refine wpAnyH_take (i := 16) (v := ?_) rfl (by kernel_rfl) (by kernel_rfl) (by kernel_rfl) (fun _ _ _ h => h) (Or.inl ⟨by rfl, ?_⟩) hHeld ?_
      rotate_left
      · intro w2 hSw
        go_simp
        all_goals rfl
      try simp only [Act.put, List.getElem_toArray, List.getElem_cons_zero, List.getElem_cons_succ, List.setIfInBounds_toArray, List.set_cons_zero, List.set_cons_succ]
      refine wpAnyH_take (i := 17) (v := ?_) rfl (by kernel_rfl) (by kernel_rfl) (by kernel_rfl) (fun _ _ _ h => h) (Or.inl ⟨by rfl, ?_⟩) hHeld ?_
      rotate_left
      · intro w2 hSw
        go_simp
        all_goals rfl
      try simp only [Act.put, List.getElem_toArray, List.getElem_cons_zero, List.getElem_cons_succ, List.setIfInBounds_toArray, List.set_cons_zero, List.set_cons_succ]
      refine wpAnyH_take (i := 18) (v := ?_) rfl (by kernel_rfl) (by kernel_rfl) (by kernel_rfl) (fun _ _ _ h => h) (Or.inl ⟨by rfl, ?_⟩) hHeld ?_
      rotate_left
      · intro w2 hSw
        go_simp
        all_goals rfl
      try simp only [Act.put, List.getElem_toArray, List.getElem_cons_zero, List.getElem_cons_succ, List.setIfInBounds_toArray, List.set_cons_zero, List.set_cons_succ]
      refine wpAnyH_take (i := 19) (v := .bool X.ok) rfl (by kernel_rfl) (by kernel_rfl) (by kernel_rfl) (fun _ _ _ h => h) (Or.inl ⟨by rfl, ?_⟩) hHeld ?_
      · intro w2 hSw
        exact exec_load rfl rfl (run_loadVar_cell12 ((d15.kept hSw).cell 14) rfl Tryd.underlying4)
      try simp only [Act.put, List.getElem_toArray, List.getElem_cons_zero, List.getElem_cons_succ, List.setIfInBounds_toArray, List.set_cons_zero, List.set_cons_succ]
      refine wpAnyH_take (i := 20) (v := ?_) rfl (by kernel_rfl) (by kernel_rfl) (by kernel_rfl) (fun _ _ _ h => h) (Or.inl ⟨by rfl, ?_⟩) hHeld ?_
      rotate_left
      · intro w2 hSw
        go_simp
        all_goals rfl
      try simp only [Act.put, List.getElem_toArray, List.getElem_cons_zero, List.getElem_cons_succ, List.setIfInBounds_toArray, List.set_cons_zero, List.set_cons_succ]
      refine wpAnyH_take (i := 21) (v := ?_) rfl (by kernel_rfl) (by kernel_rfl) (by kernel_rfl) (fun _ _ _ h => h) (Or.inl ⟨by rfl, ?_⟩) hHeld ?_
      rotate_left
      · intro w2 hSw
        go_simp
        all_goals rfl
      try simp only [Act.put, List.getElem_toArray, List.getElem_cons_zero, List.getElem_cons_succ, List.setIfInBounds_toArray, List.set_cons_zero, List.set_cons_succ]
      refine wpAnyH_take (i := 22) (v := ?_) rfl (by kernel_rfl) (by kernel_rfl) (by kernel_rfl) (fun _ _ _ h => h) (Or.inl ⟨by rfl, ?_⟩) hHeld ?_
      rotate_left
      · intro w2 hSw
        go_simp
        all_goals rfl
      try simp only [Act.put, List.getElem_toArray, List.getElem_cons_zero, List.getElem_cons_succ, List.setIfInBounds_toArray, List.set_cons_zero, List.set_cons_succ]
      refine wpAnyH_take (i := 23) (v := .agg (rowOf 65 (stF S2))) rfl (by kernel_rfl) (by kernel_rfl) (by kernel_rfl) (fun _ _ _ h => h) (Or.inl ⟨by rfl, ?_⟩) hHeld ?_
      · intro w2 hSw
        exact exec_load rfl rfl (load_state12 (st_kept h15 hSw))
      try simp only [Act.put, List.getElem_toArray, List.getElem_cons_zero, List.getElem_cons_succ, List.setIfInBounds_toArray, List.set_cons_zero, List.set_cons_succ]
      refine wpAnyH_take (i := 24) (v := ?_) rfl (by kernel_rfl) (by kernel_rfl) (by kernel_rfl) (fun _ _ _ h => h) (Or.inl ⟨by rfl, ?_⟩) hHeld ?_
      rotate_left
      · intro w2 hSw
        go_simp
        all_goals rfl
      try simp only [Act.put, List.getElem_toArray, List.getElem_cons_zero, List.getElem_cons_succ, List.setIfInBounds_toArray, List.set_cons_zero, List.set_cons_succ]
      refine wpAnyH_take (i := 25) (v := ?_) rfl (by kernel_rfl) (by kernel_rfl) (by kernel_rfl) (fun _ _ _ h => h) (Or.inl ⟨by rfl, ?_⟩) hHeld ?_
      rotate_left
      · intro w2 hSw
        go_simp
        all_goals rfl
      try simp only [Act.put, List.getElem_toArray, List.getElem_cons_zero, List.getElem_cons_succ, List.setIfInBounds_toArray, List.set_cons_zero, List.set_cons_succ]
      refine wpAnyH_take (i := 27) (v := .agg (rowOf 65 (stF S2))) rfl (by kernel_rfl) (by kernel_rfl) (by kernel_rfl) (fun _ _ _ h => h) (Or.inl ⟨by rfl, ?_⟩) hHeld ?_
      · intro w2 hSw
        exact exec_load rfl rfl (load_state12 (st_kept h15 hSw))
      try simp only [Act.put, List.getElem_toArray, List.getElem_cons_zero, List.getElem_cons_succ, List.setIfInBounds_toArray, List.set_cons_zero, List.set_cons_succ]
      refine wpAnyH_take (i := 28) (v := ?_) rfl (by kernel_rfl) (by kernel_rfl) (by kernel_rfl) (fun _ _ _ h => h) (Or.inl ⟨by rfl, ?_⟩) hHeld ?_
      rotate_left
      · intro w2 hSw
        go_simp
        all_goals rfl
      try simp only [Act.put, List.getElem_toArray, List.getElem_cons_zero, List.getElem_cons_succ, List.setIfInBounds_toArray, List.set_cons_zero, List.set_cons_succ]
      refine wpAnyH_take (i := 29) (v := ?_) rfl (by kernel_rfl) (by kernel_rfl) (by kernel_rfl) (fun _ _ _ h => h) (Or.inl ⟨by rfl, ?_⟩) hHeld ?_
      rotate_left
      · intro w2 hSw
        go_simp
        all_goals rfl
      try simp only [Act.put, List.getElem_toArray, List.getElem_cons_zero, List.getElem_cons_succ, List.setIfInBounds_toArray, List.set_cons_zero, List.set_cons_succ]
      refine wpAnyH_ready (rs := [26]) (by kernel_rfl) (by simp) ?_
      refine AllReadyH.cons rfl (fun K hK => ?_) AllReadyH.nil
      go_simp
      refine (task_any (hT.kept (k15.then hHeld)) hS2 0 vv).mono ?_
      rintro e wn ⟨rfl, kn⟩
      go_simp
      refine hK.out _ _ (hHeld.then kn) (fun hHeld => ?_)
      clear hK K kn
      try simp only [Act.put, List.setIfInBounds_toArray, List.set_cons_zero, List.set_cons_succ]
      refine wpAnyH_ready (rs := [30]) (by kernel_rfl) (by simp) ?_
      refine AllReadyH.cons rfl (fun K hK => ?_) AllReadyH.nil
      go_simp
      refine (rask_any hS2 0 vv _).mono ?_
      rintro e wn ⟨rfl, kn⟩
      go_simp
      refine hK.out _ _ (hHeld.then kn) (fun hHeld => ?_)
      clear hK K kn
      try simp only [Act.put, List.setIfInBounds_toArray, List.set_cons_zero, List.set_cons_succ]
      refine wpAnyH_take (i := 31) (v := ?_) rfl (by kernel_rfl) (by kernel_rfl) (by kernel_rfl) (fun _ _ _ h => h) (Or.inl ⟨by rfl, ?_⟩) hHeld ?_
      rotate_left
      · intro w2 hSw
        go_simp
        all_goals rfl
      try simp only [Act.put, List.getElem_toArray, List.getElem_cons_zero, List.getElem_cons_succ, List.setIfInBounds_toArray, List.set_cons_zero, List.set_cons_succ]
      refine wpAnyH_take (i := 32) (v := ?_) rfl (by kernel_rfl) (by kernel_rfl) (by kernel_rfl) (fun _ _ _ h => h) (Or.inl ⟨by rfl, ?_⟩) hHeld ?_
      rotate_left
      · intro w2 hSw
        go_simp
        all_goals rfl
      try simp only [Act.put, List.getElem_toArray, List.getElem_cons_zero, List.getElem_cons_succ, List.setIfInBounds_toArray, List.set_cons_zero, List.set_cons_succ]
      refine wpAnyH_take (i := 33) (v := ?_) rfl (by kernel_rfl) (by kernel_rfl) (by kernel_rfl) (fun _ _ _ h => h) (Or.inl ⟨by rfl, ?_⟩) hHeld ?_
      rotate_left
      · intro w2 hSw
        go_simp
        all_goals rfl
      try simp only [Act.put, List.getElem_toArray, List.getElem_cons_zero, List.getElem_cons_succ, List.setIfInBounds_toArray, List.set_cons_zero, List.set_cons_succ]
      refine wpAnyH_take (i := 34) (v := .agg (rowOf 65 (stF S2))) rfl (by kernel_rfl) (by kernel_rfl) (by kernel_rfl) (fun _ _ _ h => h) (Or.inl ⟨by rfl, ?_⟩) hHeld ?_
      · intro w2 hSw
        exact exec_load rfl rfl (load_state12 (st_kept h15 hSw))
      try simp only [Act.put, List.getElem_toArray, List.getElem_cons_zero, List.getElem_cons_succ, List.setIfInBounds_toArray, List.set_cons_zero, List.set_cons_succ]
      refine wpAnyH_take (i := 35) (v := ?_) rfl (by kernel_rfl) (by kernel_rfl) (by kernel_rfl) (fun _ _ _ h => h) (Or.inl ⟨by rfl, ?_⟩) hHeld ?_
      rotate_left
      · intro w2 hSw
        go_simp
        all_goals rfl
      try simp only [Act.put, List.getElem_toArray, List.getElem_cons_zero, List.getElem_cons_succ, List.setIfInBounds_toArray, List.set_cons_zero, List.set_cons_succ]
      refine wpAnyH_take (i := 37) (v := .agg (askA ⟨false, false, false, false, 0, 0, 0, 0⟩)) rfl (by kernel_rfl) (by kernel_rfl) (by kernel_rfl) (fun _ _ _ h => h) (Or.inl ⟨by rfl, ?_⟩) hHeld ?_
      · intro w2 hSw
        exact exec_build rfl _ rfl (askA ⟨false, false, false, false, 0, 0, 0, 0⟩) (by kernel_rfl)
      try simp only [Act.put, List.getElem_toArray, List.getElem_cons_zero, List.getElem_cons_succ, List.setIfInBounds_toArray, List.set_cons_zero, List.set_cons_succ]
      refine wpAnyH_ready (rs := [36]) (by kernel_rfl) (by simp) ?_
      refine AllReadyH.cons rfl (fun K hK => ?_) AllReadyH.nil
      go_simp
      refine (task_any (hT.kept (k15.then hHeld)) hS2 3 vv).mono ?_
      rintro e wn ⟨rfl, kn⟩
      rw [ask_mach]
      go_simp
      refine hK.out _ _ (hHeld.then kn) (fun hHeld => ?_)
      clear hK K kn
      try simp only [Act.put, List.setIfInBounds_toArray, List.set_cons_zero, List.set_cons_succ]
      refine wpAnyH_take (i := 38) (v := ?_) rfl (by kernel_rfl) (by kernel_rfl) (by kernel_rfl) (fun _ _ _ h => h) (Or.inl ⟨by rfl, ?_⟩) hHeld ?_
      rotate_left
      · intro w2 hSw
        go_simp
        all_goals rfl
      try simp only [Act.put, List.getElem_toArray, List.getElem_cons_zero, List.getElem_cons_succ, List.setIfInBounds_toArray, List.set_cons_zero, List.set_cons_succ]
      refine wpAnyH_take (i := 39) (v := ?_) rfl (by kernel_rfl) (by kernel_rfl) (by kernel_rfl) (fun _ _ _ h => h) (Or.inl ⟨by rfl, ?_⟩) hHeld ?_
      rotate_left
      · intro w2 hSw
        go_simp
        all_goals rfl
      try simp only [Act.put, List.getElem_toArray, List.getElem_cons_zero, List.getElem_cons_succ, List.setIfInBounds_toArray, List.set_cons_zero, List.set_cons_succ]
      refine wpAnyH_take (i := 40) (v := ?_) rfl (by kernel_rfl) (by kernel_rfl) (by kernel_rfl) (fun _ _ _ h => h) (Or.inl ⟨by rfl, ?_⟩) hHeld ?_
      rotate_left
      · intro w2 hSw
        go_simp
        all_goals rfl
      try simp only [Act.put, List.getElem_toArray, List.getElem_cons_zero, List.getElem_cons_succ, List.setIfInBounds_toArray, List.set_cons_zero, List.set_cons_succ]
      refine wpAnyH_take (i := 41) (v := ?_) rfl (by kernel_rfl) (by kernel_rfl) (by kernel_rfl) (fun _ _ _ h => h) (Or.inl ⟨by rfl, ?_⟩) hHeld ?_
      rotate_left
      · intro w2 hSw
        go_simp
        all_goals rfl
      try simp only [Act.put, List.getElem_toArray, List.getElem_cons_zero, List.getElem_cons_succ, List.setIfInBounds_toArray, List.set_cons_zero, List.set_cons_succ]
      refine wpAnyH_take (i := 42) (v := ?_) rfl (by kernel_rfl) (by kernel_rfl) (by kernel_rfl) (fun _ _ _ h => h) (Or.inl ⟨by rfl, ?_⟩) hHeld ?_
      rotate_left
      · intro w2 hSw
        go_simp
        all_goals rfl
      try simp only [Act.put, List.getElem_toArray, List.getElem_cons_zero, List.getElem_cons_succ, List.setIfInBounds_toArray, List.set_cons_zero, List.set_cons_succ]
      refine wpAnyH_take (i := 43) (v := ?_) rfl (by kernel_rfl) (by kernel_rfl) (by kernel_rfl) (fun _ _ _ h => h) (Or.inl ⟨by rfl, ?_⟩) hHeld ?_
      rotate_left
      · intro w2 hSw
        go_simp
        all_goals rfl
      try simp only [Act.put, List.getElem_toArray, List.getElem_cons_zero, List.getElem_cons_succ, List.setIfInBounds_toArray, List.set_cons_zero, List.set_cons_succ]
      refine wpAnyH_take (i := 44) (v := ?_) rfl (by kernel_rfl) (by kernel_rfl) (by kernel_rfl) (fun _ _ _ h => h) (Or.inl ⟨by rfl, ?_⟩) hHeld ?_
      rotate_left
      · intro w2 hSw
        go_simp
        all_goals rfl
      try simp only [Act.put, List.getElem_toArray, List.getElem_cons_zero, List.getElem_cons_succ, List.setIfInBounds_toArray, List.set_cons_zero, List.set_cons_succ]
      refine wpAnyH_take (i := 45) (v := ?_) rfl (by kernel_rfl) (by kernel_rfl) (by kernel_rfl) (fun _ _ _ h => h) (Or.inl ⟨by rfl, ?_⟩) hHeld ?_
      rotate_left
      · intro w2 hSw
        go_simp
        all_goals rfl
      try simp only [Act.put, List.getElem_toArray, List.getElem_cons_zero, List.getElem_cons_succ, List.setIfInBounds_toArray, List.set_cons_zero, List.set_cons_succ]
      refine wpAnyH_take (i := 46) (v := ?_) rfl (by kernel_rfl) (by kernel_rfl) (by kernel_rfl) (fun _ _ _ h => h) (Or.inl ⟨by rfl, ?_⟩) hHeld ?_
      rotate_left
      · intro w2 hSw
        go_simp
        all_goals rfl
      try simp only [Act.put, List.getElem_toArray, List.getElem_cons_zero, List.getElem_cons_succ, List.setIfInBounds_toArray, List.set_cons_zero, List.set_cons_succ]
      refine wpAnyH_take (i := 47) (v := ?_) rfl (by kernel_rfl) (by kernel_rfl) (by kernel_rfl) (fun _ _ _ h => h) (Or.inl ⟨by rfl, ?_⟩) hHeld ?_
      rotate_left
      · intro w2 hSw
        go_simp
        all_goals rfl
      try simp only [Act.put, List.getElem_toArray, List.getElem_cons_zero, List.getElem_cons_succ, List.setIfInBounds_toArray, List.set_cons_zero, List.set_cons_succ]
      refine wpAnyH_take (i := 48) (v := ?_) rfl (by kernel_rfl) (by kernel_rfl) (by kernel_rfl) (fun _ _ _ h => h) (Or.inl ⟨by rfl, ?_⟩) hHeld ?_
      rotate_left
      · intro w2 hSw
        go_simp
        all_goals rfl
      try simp only [Act.put, List.getElem_toArray, List.getElem_cons_zero, List.getElem_cons_succ, List.setIfInBounds_toArray, List.set_cons_zero, List.set_cons_succ]
      refine wpAnyH_take (i := 49) (v := ?_) rfl (by kernel_rfl) (by kernel_rfl) (by kernel_rfl) (fun _ _ _ h => h) (Or.inl ⟨by rfl, ?_⟩) hHeld ?_
      rotate_left
      · intro w2 hSw
        go_simp
        all_goals rfl
      try simp only [Act.put, List.getElem_toArray, List.getElem_cons_zero, List.getElem_cons_succ, List.setIfInBounds_toArray, List.set_cons_zero, List.set_cons_succ]
      refine wpAnyH_take (i := 50) (v := ?_) rfl (by kernel_rfl) (by kernel_rfl) (by kernel_rfl) (fun _ _ _ h => h) (Or.inl ⟨by rfl, ?_⟩) hHeld ?_
      rotate_left
      · intro w2 hSw
        go_simp
        all_goals rfl
      try simp only [Act.put, List.getElem_toArray, List.getElem_cons_zero, List.getElem_cons_succ, List.setIfInBounds_toArray, List.set_cons_zero, List.set_cons_succ]
      refine wpAnyH_done (by kernel_rfl) ?_ _
      go_wp2
      go_ret
      exact ⟨rfl, k15.then hHeld⟩
  · rw [decide_eq_false hn]
    go_wp2
    go_ret
    exact ⟨rfl, k1⟩
end Go.Proofs.YtpplclenokfpeaaDoor
