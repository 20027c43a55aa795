/-
  What statement FenceParts asks: what is named by page and mark goes when all goes; named one by one all of them go at last. Walked over the contracts.
-/
import Derived.Test.YtpfblbleendpiaaFenFace
import Derived.Test.YtpfblbleendpiaaFenMath
import Derived.Test.YtpfblbleendpiaaFenSame
import Derived.Deep.RegionHeld3
namespace Go.Proofs.Ytpfblbleendpiaa
open Go.RowKit
theorem setV_ok {S : StM} (h : S.Ok) (v : Bool) : (setV S v).Ok := ⟨h.X, h.pc, h.lvl, h.C, h.done⟩
theorem noguest_any (S : StM) (w : World) :
    Calls Try.prog 12 #[.agg (rowOf 65 (stF S))] w fun e w' => e = .returned (.agg (rowOf 65 (stF (setV S false)))) ∧ Kept w w' := by
  have hT0 := two_new (w := w) (S := S) (rowOf_size 65 zF) (Only.refl _ _)
  go_enter Try.func12, Try.ntmps12
  go_upto_region 1 with (refine wpList_alloc_is rfl 27 rfl (rowOf 65 zF) st_zero ?_)
  rw [Go.Deep.nblk_alloc]
  generalize (w.alloc (.cells (rowOf 65 (stF S)) 27)).alloc (.cells (rowOf 65 zF) 27) = w0 at hT0 ⊢
  have cv := st_v hT0.s
  have fv := hT0.s.frozen 34
  have hA : TwoS w (w0.setCell ⟨w.heap.size, 34, none⟩ (.bool false)) w.heap.size (w.heap.size + 1) (setV S false) := hT0.put _ (stF_v _ _)
  go_upto_region 2 with fail
  obtain ⟨F, hF⟩ := hA.room
  go_wp2_with first | refine wpList_load_row rfl 27 _ rfl rfl hA.s _ Try.underlying27 rfl st_size ?_ | refine wpList_store_is rfl 27 _ _ rfl rfl rfl hF st_size (fun i _ => stF_one _ i) ?_
  refine bodyPost_ret (results_cell1 rfl _ _ _ _ _ rfl (load_state hA.out.1)) rfl ?_
  exact ⟨rfl, hA.out.2⟩
/-- Both objects and the state's room, made by the call itself. -/
structure FP (W w : World) (b u sb : Nat) (T U : Nat → EntM) (C : StM) : Prop where
  m : PTl w b T
  n : PTl w u U
  g : InvG T
  h : InvG U
  s : StAt w sb C
  k : Kept W w
  hb : W.heap.size ≤ b
  hu : W.heap.size ≤ u
  hs : W.heap.size ≤ sb
  bu : b ≠ u
  bs : b ≠ sb
  us : u ≠ sb
section
variable {W w w' : World} {b u sb : Nat} {T U : Nat → EntM} {C : StM}
theorem FP.kept (f : FP W w b u sb T U C) (k : Kept w w') : FP W w' b u sb T U C := ⟨f.m.kept k, f.n.kept k, f.g, f.h, st_kept14 f.s k, f.k.then k, f.hb, f.hu, f.hs, f.bu, f.bs, f.us⟩
theorem FP.turnB {T' : Nat → EntM} (f : FP W w b u sb T U C) (k : Only (fun i => i = b) w w') (m : PTl w' b T') (g : InvG T') : FP W w' b u sb T' U C := ⟨m, f.n.same k (fun x => f.bu x.symm), g, f.h, st_past14 f.s k (fun x => f.bs x.symm), f.k.new k fun i hi => by rw [hi]; exact f.hb, f.hb, f.hu, f.hs, f.bu, f.bs, f.us⟩
theorem FP.turnU {U' : Nat → EntM} (f : FP W w b u sb T U C) (k : Only (fun i => i = u) w w') (n : PTl w' u U') (h : InvG U') : FP W w' b u sb T U' C := ⟨f.m.same k f.bu, n, f.g, h, st_past14 f.s k (fun x => f.us x.symm), f.k.new k fun i hi => by rw [hi]; exact f.hu, f.hb, f.hu, f.hs, f.bu, f.bs, f.us⟩
end
set_option maxRecDepth 100000 in
set_option maxHeartbeats 8000000 in
theorem fparts_short (q : Option Addr) (n cp : Nat) (L : Nat → EntM) (hn : n ≤ 40) {S : StM} (hS : S.Ok) {W : World} (hP : RowEn W q n L) (hT : Tab14 W) :
    Calls Try.prog 3 #[.slice q n cp, .agg (rowOf 65 (stF S))] W fun e w' => e = .returned (.bool true) ∧ Kept W w' := by
  have l1 : ¬ (40 : Int) < (n : Int) := by omega
  have h0 := st_new W S
  have k0 := (Only.refl (fun _ => False) W).alloc (.cells (rowOf 65 (stF S)) 27)
  have hC := cleanM_ok hS
  go_enter Try.func3, Try.ntmps3
  go_upto_region 1 with fail
  generalize W.alloc (.cells (rowOf 65 (stF S)) 27) = w0 at *
  generalize W.heap.size = bb at h0
  go_wp2_with fail
  refine (known14_any (hT.kept k0) (Only.refl _ w0)).mono ?_
  rintro e w1 ⟨rfl, k1⟩
  have h1 := st_kept14 h0 k1
  have k2 : Kept W w1 := k0.then k1
  clear h0 k0 k1
  go_upto_region 6 with (first | (refine wpList_load_is (by rfl) 27 _ rfl rfl h1 _ Try.underlying27 rfl st_size ?_) | (go_at_call 6; refine (rclean_any S _).mono ?_; rintro e w2 ⟨rfl, k3⟩) | refine wpList_alloc_is rfl 27 rfl (rowOf 65 zF) st_zero ?_ | (refine wpList_store_is rfl 27 _ _ rfl rfl rfl (row_alloc _ 65 zF _) st_size (fun i _ => stF_one _ i) ?_; rw [World.setRow_alloc_new]))
  generalize cleanM S = C at *
  have h2 := st_new w2 C
  have k4 : Kept W (w2.alloc (.cells (rowOf 65 (stF C)) 27)) := (k2.then k3).alloc _
  have hsb : W.heap.size ≤ w2.heap.size := (k2.then k3).size
  try simp only [Act.put]
  generalize w2.alloc (.cells (rowOf 65 (stF C)) 27) = w3 at h2 k4 ⊢
  generalize w2.heap.size = sb at h2 hsb ⊢
  clear k2 k3 h1
  go_wp2_with fail
  refine (filled_any q n cp L hn (hP.kept k4) (hT.kept k4)).mono ?_
  rintro e w4 ⟨b, rb, rfl, f4⟩
  have k5 : Kept W w4 := k4.then f4.k
  have h4 := st_kept14 h2 f4.k
  have ls := World.rowIs.lt h2
  go_wp2_with fail
  refine (filled_any q n cp L hn (hP.kept k5) (hT.kept k5)).mono ?_
  rintro e w5 ⟨u, ru, rfl, f5⟩
  have hlb := f4.p.lt
  have F : FP W w5 b u sb (fillN L n) (fillN L n) C := ⟨f4.p.kept f5.k, f5.p, inv_fillN L n, inv_fillN L n, st_kept14 h4 f5.k, k5.then f5.k, Nat.le_trans k4.size f4.hb, Nat.le_trans k5.size f5.hb, hsb, by have := f5.hb; omega, by have := f4.hb; omega, by have := f5.hb; have := f4.k.size; omega⟩
  clear f4 f5 h4 h2 k5 k4 ls hlb hP hsb
  generalize fillN L n = T at F
  go_wp2_with (first | (refine wpList_load_is (by rfl) 27 _ rfl rfl F.s _ Try.underlying27 rfl st_size ?_))
  refine (fsfence_any (hT.kept F.k) F.m F.g hC (-1) (-1)).mono ?_
  rintro e w6 ⟨rfl, m6, g6⟩
  have F6 := F.turnB g6 m6 (inv_wipe F.g _ 16)
  clear F m6 g6
  go_wp2_with fail
  refine (tall_any (hT.kept F6.k).tl F6.n).mono ?_
  rintro e w7 ⟨v, rfl, ow, k7⟩
  have F7 := F6.kept k7
  have lb : b < w6.heap.size := F6.m.lt
  have lu : u < w6.heap.size := F6.n.lt
  clear F6 k7
  generalize w6.heap.size = base at *
  obtain ⟨qv, cv, rfl⟩ := ow.form
  have hlen := all_len T 16 0
  have hA : (allT T).length ≤ 16 := hlen
  clear hlen
  obtain ⟨e0, e1⟩ := each_0 (S := C) (v := C.v) (T := T) (allT T)
  have F8 : FP W w7 b u sb (wipeT (sfeB C C.v (-1) (-1)) T) (wipeT (eachB C C.v (allT T) 0) T) C := by rw [e0]; exact F7
  clear F7
  generalize hAA : allT T = A at *
  go_wp2_with fail
  go_loopw [11, 13] (fun k i wr => ∃ j : Nat, j ≤ A.length ∧ k = .int .i64 (cntT (eachB C C.v A j) T : Nat) ∧ i = .int .i64 (j : Int) ∧ FP W wr b u sb (wipeT (sfeB C C.v (-1) (-1)) T) (wipeT (eachB C C.v A j) T) C ∧ OwnE base wr (.slice qv A.length cv) A) (fun k i _ => A.length - (intOf i).toNat)
  case atStart => exact ⟨0, by omega, by rw [e1]; rfl, rfl, F8, ow⟩
  case round =>
    obtain ⟨j, hj, rfl, rfl, Fj, oj⟩ := hrel
    clear F8 ow e0 e1
    by_cases hlt : j < A.length
    · have hlt' : (j : Int) < (A.length : Int) := by omega
      have hj0 : (0 : Int) ≤ (j : Int) := by omega
      have hj9 : (j : Int) < 16 := by omega
      obtain ⟨st1, st2⟩ := each_step (S := C) (v := C.v) (T := T) A hlt
      have hc1 : cntT (eachB C C.v A j) T ≤ 16 := cnt_le _ T 16
      have hc2 : cntT (sfeB C C.v A[j].page A[j].asid) (wipeT (eachB C C.v A j) T) ≤ 16 := cnt_le _ _ 16
      obtain ⟨g, cap, hq, hg, hr⟩ := oj.range j hlt
      obtain ⟨rfl, rfl⟩ : qv = some ⟨g, 0, none⟩ ∧ cv = cap := by simpa using hq
      have hkeep : j < A.length ∧ A.length ≤ 16 := ⟨hlt, hA⟩
      have hgu : ¬ g = u := by omega
      have hgl : g < wr.heap.size := World.block_lt_of_cell? _ ⟨g, j * 9, none⟩ (hr 0 _ rfl)
      generalize A[j] = e at hr st1 st2 hc2
      generalize hcn : cntT (eachB C C.v A j) T = cn at *
      generalize wipeT (eachB C C.v A j) T = U at *
      clear hq hcn
      go_upto_region 14 with fail
      have F9 := Fj.kept ((Only.refl _ wr).drew)
      have o9 := oj.kept ((Only.refl _ wr).drew)
      have kd : Kept wr wr.drew := (Only.refl _ wr).drew
      have r9 : wr.drew.rangeAt g (j * 9) (entA e) := fun i v hv => kd.cell (hr i v hv)
      have gl9 : g < wr.drew.heap.size := Nat.lt_of_lt_of_le hgl ((Only.refl (fun _ => False) wr).drew).size
      clear Fj oj hr hgl kd
      refine wp_region_held_drew (S := fun w2 => Only (fun i => i = u) wr.drew w2) (by kernel_rfl) (Only.refl _ _) (fun hHeld => ?_)
      generalize wr.drew = wd at *
      refine wpAnyH_take (i := 0) (v := ?_) rfl (by kernel_rfl) (by kernel_rfl) (by kernel_rfl) (fun _ _ _ h => h) (Or.inl ⟨by rfl, ?_⟩) hHeld ?_
      rotate_left
      · intro w2 hSw
        go_simp
        all_goals rfl
      try simp only [Act.put, List.getElem_toArray, List.getElem_cons_zero, List.setIfInBounds_toArray, List.set_cons_zero, List.set_cons_succ]
      refine wpAnyH_take (i := 1) (v := ?_) rfl (by kernel_rfl) (by kernel_rfl) (by kernel_rfl) (fun _ _ _ h => h) (Or.inl ⟨by rfl, ?_⟩) hHeld ?_
      rotate_left
      · intro w2 hSw
        go_simp
        all_goals rfl
      try simp only [Act.put, List.getElem_toArray, List.getElem_cons_zero, List.getElem_cons_succ, List.setIfInBounds_toArray, List.set_cons_zero, List.set_cons_succ]
      refine wpAnyH_take (i := 2) (v := .agg (rowOf 65 (stF C))) rfl (by kernel_rfl) (by kernel_rfl) (by kernel_rfl) (fun _ _ _ h => h) (Or.inl ⟨by rfl, ?_⟩) hHeld ?_
      · intro w2 hSw
        exact exec_load rfl rfl (load_state (st_past14 F9.s hSw (fun x => F9.us x.symm)))
      try simp only [Act.put, List.getElem_toArray, List.getElem_cons_zero, List.getElem_cons_succ, List.setIfInBounds_toArray, List.set_cons_zero, List.set_cons_succ]
      refine wpAnyH_take (i := 3) (v := ?_) rfl (by kernel_rfl) (by kernel_rfl) (by kernel_rfl) (fun _ _ _ h => h) (Or.inl ⟨by rfl, ?_⟩) hHeld ?_
      rotate_left
      · intro w2 hSw
        go_simp
        all_goals rfl
      try simp only [Act.put, List.getElem_toArray, List.getElem_cons_zero, List.getElem_cons_succ, List.setIfInBounds_toArray, List.set_cons_zero, List.set_cons_succ]
      refine wpAnyH_take (i := 4) (v := ?_) rfl (by kernel_rfl) (by kernel_rfl) (by kernel_rfl) (fun _ _ _ h => h) (Or.inl ⟨by rfl, ?_⟩) hHeld ?_
      rotate_left
      · intro w2 hSw
        go_simp
        all_goals rfl
      try simp only [Act.put, List.getElem_toArray, List.getElem_cons_zero, List.getElem_cons_succ, List.setIfInBounds_toArray, List.set_cons_zero, List.set_cons_succ]
      refine wpAnyH_take (i := 5) (v := ?_) rfl (by kernel_rfl) (by kernel_rfl) (by kernel_rfl) (fun _ _ _ h => h) (Or.inl ⟨by rfl, ?_⟩) hHeld ?_
      rotate_left
      · intro w2 hSw
        go_simp
        all_goals rfl
      try simp only [Act.put, List.getElem_toArray, List.getElem_cons_zero, List.getElem_cons_succ, List.setIfInBounds_toArray, List.set_cons_zero, List.set_cons_succ]
      refine wpAnyH_take (i := 6) (v := ?_) rfl (by kernel_rfl) (by kernel_rfl) (by kernel_rfl) (fun _ _ _ h => h) (Or.inl ⟨by rfl, ?_⟩) hHeld ?_
      rotate_left
      · intro w2 hSw
        go_simp
        all_goals rfl
      try simp only [Act.put, List.getElem_toArray, List.getElem_cons_zero, List.getElem_cons_succ, List.setIfInBounds_toArray, List.set_cons_zero, List.set_cons_succ]
      refine wpAnyH_take (i := 7) (v := .int .i64 e.page) rfl (by kernel_rfl) (by kernel_rfl) (by kernel_rfl) (fun _ _ _ h => h) (Or.inl ⟨by rfl, ?_⟩) hHeld ?_
      · intro w2 hSw
        exact exec_load rfl rfl (run_loadVar_cell9 (range_only r9 hSw hgu gl9 2 _ rfl) rfl Try.underlying3)
      try simp only [Act.put, List.getElem_toArray, List.getElem_cons_zero, List.getElem_cons_succ, List.setIfInBounds_toArray, List.set_cons_zero, List.set_cons_succ]
      refine wpAnyH_take (i := 8) (v := ?_) rfl (by kernel_rfl) (by kernel_rfl) (by kernel_rfl) (fun _ _ _ h => h) (Or.inl ⟨by rfl, ?_⟩) hHeld ?_
      rotate_left
      · intro w2 hSw
        go_simp
        all_goals rfl
      try simp only [Act.put, List.getElem_toArray, List.getElem_cons_zero, List.getElem_cons_succ, List.setIfInBounds_toArray, List.set_cons_zero, List.set_cons_succ]
      refine wpAnyH_take (i := 9) (v := ?_) rfl (by kernel_rfl) (by kernel_rfl) (by kernel_rfl) (fun _ _ _ h => h) (Or.inl ⟨by rfl, ?_⟩) hHeld ?_
      rotate_left
      · intro w2 hSw
        go_simp
        all_goals rfl
      try simp only [Act.put, List.getElem_toArray, List.getElem_cons_zero, List.getElem_cons_succ, List.setIfInBounds_toArray, List.set_cons_zero, List.set_cons_succ]
      refine wpAnyH_take (i := 10) (v := ?_) rfl (by kernel_rfl) (by kernel_rfl) (by kernel_rfl) (fun _ _ _ h => h) (Or.inl ⟨by rfl, ?_⟩) hHeld ?_
      rotate_left
      · intro w2 hSw
        go_simp
        all_goals rfl
      try simp only [Act.put, List.getElem_toArray, List.getElem_cons_zero, List.getElem_cons_succ, List.setIfInBounds_toArray, List.set_cons_zero, List.set_cons_succ]
      refine wpAnyH_take (i := 11) (v := ?_) rfl (by kernel_rfl) (by kernel_rfl) (by kernel_rfl) (fun _ _ _ h => h) (Or.inl ⟨by rfl, ?_⟩) hHeld ?_
      rotate_left
      · intro w2 hSw
        go_simp
        all_goals rfl
      try simp only [Act.put, List.getElem_toArray, List.getElem_cons_zero, List.getElem_cons_succ, List.setIfInBounds_toArray, List.set_cons_zero, List.set_cons_succ]
      refine wpAnyH_take (i := 12) (v := .int .i64 e.asid) rfl (by kernel_rfl) (by kernel_rfl) (by kernel_rfl) (fun _ _ _ h => h) (Or.inl ⟨by rfl, ?_⟩) hHeld ?_
      · intro w2 hSw
        exact exec_load rfl rfl (run_loadVar_cell9 (range_only r9 hSw hgu gl9 3 _ rfl) rfl Try.underlying3)
      try simp only [Act.put, List.getElem_toArray, List.getElem_cons_zero, List.getElem_cons_succ, List.setIfInBounds_toArray, List.set_cons_zero, List.set_cons_succ]
      refine wpAnyH_ready (rs := [13]) (by kernel_rfl) (by simp) ?_
      refine AllReadyH.cons rfl (fun K hK => ?_) AllReadyH.nil
      go_simp
      refine (fsfence_any (hT.kept F9.k) F9.n F9.h hC e.page e.asid).mono ?_
      rintro r w8 ⟨rfl, m8, g8⟩
      rw [st1] at m8
      generalize cntT (sfeB C C.v e.page e.asid) U = c2 at st2 hc2 ⊢
      have b1 : (cn : Int) ≤ 16 := by omega
      have b2 : (c2 : Int) ≤ 16 := by omega
      go_simp
      refine hK.out _ _ g8 (fun hHeld => ?_)
      clear hK K
      try simp only [Act.put, List.getElem_toArray, List.getElem_cons_zero, List.getElem_cons_succ, List.setIfInBounds_toArray, List.set_cons_zero, List.set_cons_succ]
      refine wpAnyH_take (i := 14) (v := ?_) rfl (by kernel_rfl) (by kernel_rfl) (by kernel_rfl) (fun _ _ _ h => h) (Or.inl ⟨by rfl, ?_⟩) hHeld ?_
      rotate_left
      · intro w2 hSw
        go_simp
        all_goals rfl
      try simp only [Act.put, List.getElem_toArray, List.getElem_cons_zero, List.getElem_cons_succ, List.setIfInBounds_toArray, List.set_cons_zero, List.set_cons_succ]
      refine wpAnyH_take (i := 15) (v := ?_) rfl (by kernel_rfl) (by kernel_rfl) (by kernel_rfl) (fun _ _ _ h => h) (Or.inl ⟨by rfl, ?_⟩) hHeld ?_
      rotate_left
      · intro w2 hSw
        go_simp
        all_goals rfl
      try simp only [Act.put, List.getElem_toArray, List.getElem_cons_zero, List.getElem_cons_succ, List.setIfInBounds_toArray, List.set_cons_zero, List.set_cons_succ]
      refine wpAnyH_done (by kernel_rfl) ?_ _
      have F8 := F9.turnU g8 m8 (by have := inv_wipe F9.h (sfeB C C.v e.page e.asid) 16; rwa [show wipeK (sfeB C C.v e.page e.asid) U 16 = wipeT (sfeB C C.v e.page e.asid) U from rfl, st1] at this)
      have o8 : OwnE base w8 (.slice (some ⟨g, 0, none⟩) A.length cv) A := o9.past g8 fun i hi => by omega
      have hsum : (cn : Int) + (c2 : Int) = ((cntT (eachB C C.v A (j + 1)) T : Nat) : Int) := by omega
      have hwr : IntKind.i64.wrap ((cn : Int) + (c2 : Int)) = (cn : Int) + (c2 : Int) := by rw [IntKind.wrap_i64]; omega
      clear F9 o9 r9 hHeld m8 g8
      go_wp2_with fail
      exact ⟨⟨j + 1, by omega, by rw [← hsum, hwr], by go_num, F8, o8⟩, by simp [intOf]; omega⟩
    · obtain rfl : j = A.length := by omega
      obtain ⟨d1, d2⟩ := each_end (S := C) (v := C.v) (T := T)
      rw [hAA] at d1 d2
      rw [d1] at Fj
      rw [d2]
      have ag := again_none C C.v (-1) (-1) T
      have lf := fun e => left_no (S := C) (v := C.v) (T := T) (e := e)
      clear d1 d2 oj hlt
      generalize cntT (sfeB C C.v (-1) (-1)) T = c at *
      generalize hT1 : wipeT (sfeB C C.v (-1) (-1)) T = T1 at *
      clear hT1 hAA hA lb lu
      go_wp2_with fail
      refine (tall_any (hT.kept Fj.k).tl Fj.m).mono ?_
      rintro e wA ⟨v1, rfl, owA, kA⟩
      have FA := Fj.kept kA
      obtain ⟨q1, c1, rfl⟩ := owA.form
      clear Fj kA
      go_wp2_with fail
      refine (tall_any (hT.kept FA.k).tl FA.n).mono ?_
      rintro e wB ⟨v2, rfl, owB, kB⟩
      have FB := FA.kept kB
      have owA2 := owA.kept kB
      obtain ⟨q2, c2, rfl⟩ := owB.form
      clear FA kB owA
      have hlen : (allT T1).length ≤ 16 := all_len T1 16 0
      go_wp2_with fail
      refine (same14_any (by omega) owA2.row owB.row).mono ?_
      rintro e wC ⟨rfl, kC⟩
      have FC := FB.kept kC
      clear FB kC owA2 owB
      go_wp2_with (first | (refine wpList_load_is (by rfl) 27 _ rfl rfl FC.s _ Try.underlying27 rfl st_size ?_))
      refine (fsfence_any (hT.kept FC.k) FC.m FC.g hC (-1) (-1)).mono ?_
      rintro e wD ⟨rfl, mD, gD⟩
      rw [ag.1] at mD
      rw [ag.2]
      have FD := FC.turnB gD mD FC.g
      clear FC mD gD ag
      go_wp2_with fail
      refine (tall_any (hT.kept FD.k).tl FD.m).mono ?_
      rintro e wE ⟨v3, rfl, owE, kE⟩
      have FE := FD.kept kE
      obtain ⟨q3, c3, rfl⟩ := owE.form
      generalize wD.heap.size = bE at owE
      clear FD kE
      have ba := both_all (S := setV C false) T1
      generalize hB : allT T1 = B at *
      go_wp2_with fail
      go_loopw [15] (fun i wr => ∃ j : Nat, j ≤ B.length ∧ i = .int .i64 (j : Int) ∧ Kept wE wr) (fun i _ => B.length - (intOf i).toNat)
      case atStart => exact ⟨0, by omega, rfl, Only.refl _ _⟩
      case round =>
        obtain ⟨j, hj, rfl, hk⟩ := hrel
        have FR := FE.kept hk
        have oR := owE.kept hk
        clear FE owE
        by_cases hlt : j < B.length
        · have hlt' : (j : Int) < (B.length : Int) := by omega
          have hj0 : (0 : Int) ≤ (j : Int) := by omega
          have hj9 : (j : Int) < 16 := by omega
          have hno := lf B[j] (List.getElem_mem hlt)
          obtain ⟨g, cap, hq, hg, hr⟩ := oR.range j hlt
          obtain ⟨rfl, rfl⟩ : q3 = some ⟨g, 0, none⟩ ∧ c3 = cap := by simpa using hq
          have hkeep : j < B.length ∧ B.length ≤ 16 := ⟨hlt, hlen⟩
          have ea : bits .and .u64 (C.C 21 / 65536) 255 = vmI C := u_low (C.C 21 / 65536) 8 (by have := (hC.C 21 (by omega)).1; omega) 255 rfl
          obtain ⟨v0, v1⟩ := vm_bd C
          obtain ⟨u0, u1⟩ := hC.C 21 (by omega)
          generalize B[j] = e at hr hno
          clear hq lf ba oR
          go_upto_region 21 with fail
          have kd : Kept wr wr.drew := (Only.refl _ wr).drew
          have F9 := FR.kept kd
          have r9 : wr.drew.rangeAt g (j * 9) (entA e) := fun i v hv => kd.cell (hr i v hv)
          have kE9 : Kept wE wr.drew := hk.then kd
          clear FR hr kd hk
          refine wp_region_held_drew (S := fun w2 => Kept wr.drew w2) (by kernel_rfl) (Only.refl _ _) (fun hHeld => ?_)
          generalize wr.drew = wd at *
          rcases Bool.eq_false_or_eq_true e.v with hx | hx <;> rcases Bool.eq_false_or_eq_true C.v with hy | hy
          · have hz : (e.vmid == IntKind.i64.wrap (vmI C)) = false := by
              rw [show IntKind.i64.wrap (vmI C) = vmI C by rw [IntKind.wrap_i64]; omega]
              exact beq_eq_false_iff_ne.2 fun h => hno ⟨by rw [hx, hy], .inr h⟩
            clear hno
            refine wpAnyH_take (i := 0) (v := ?_) rfl (by kernel_rfl) (by kernel_rfl) (by kernel_rfl) (fun _ _ _ h => h) (Or.inl ⟨by rfl, ?_⟩) hHeld ?_
            rotate_left
            · intro w2 hSw
              go_simp
              all_goals rfl
            try simp only [Act.put, List.getElem_toArray, List.getElem_cons_zero, List.setIfInBounds_toArray, List.set_cons_zero, List.set_cons_succ]
            refine wpAnyH_take (i := 1) (v := ?_) rfl (by kernel_rfl) (by kernel_rfl) (by kernel_rfl) (fun _ _ _ h => h) (Or.inl ⟨by rfl, ?_⟩) hHeld ?_
            rotate_left
            · intro w2 hSw
              go_simp
              all_goals rfl
            try simp only [Act.put, List.getElem_toArray, List.getElem_cons_zero, List.getElem_cons_succ, List.setIfInBounds_toArray, List.set_cons_zero, List.set_cons_succ]
            refine wpAnyH_take (i := 2) (v := ?_) rfl (by kernel_rfl) (by kernel_rfl) (by kernel_rfl) (fun _ _ _ h => h) (Or.inl ⟨by rfl, ?_⟩) hHeld ?_
            rotate_left
            · intro w2 hSw
              go_simp
              all_goals rfl
            try simp only [Act.put, List.getElem_toArray, List.getElem_cons_zero, List.getElem_cons_succ, List.setIfInBounds_toArray, List.set_cons_zero, List.set_cons_succ]
            refine wpAnyH_take (i := 3) (v := ?_) rfl (by kernel_rfl) (by kernel_rfl) (by kernel_rfl) (fun _ _ _ h => h) (Or.inl ⟨by rfl, ?_⟩) hHeld ?_
            rotate_left
            · intro w2 hSw
              go_simp
              all_goals rfl
            try simp only [Act.put, List.getElem_toArray, List.getElem_cons_zero, List.getElem_cons_succ, List.setIfInBounds_toArray, List.set_cons_zero, List.set_cons_succ]
            refine wpAnyH_take (i := 4) (v := .bool true) rfl (by kernel_rfl) (by kernel_rfl) (by kernel_rfl) (fun _ _ _ h => h) (Or.inl ⟨by rfl, ?_⟩) hHeld ?_
            · intro w2 hSw
              exact exec_load rfl rfl (run_loadVar_cell9 ((hSw.cell (r9 1 _ rfl)).trans (congrArg (fun x => some (Value.bool x)) hx)) rfl Try.underlying4)
            try simp only [Act.put, List.getElem_toArray, List.getElem_cons_zero, List.getElem_cons_succ, List.setIfInBounds_toArray, List.set_cons_zero, List.set_cons_succ]
            refine wpAnyH_take (i := 5) (v := ?_) rfl (by kernel_rfl) (by kernel_rfl) (by kernel_rfl) (fun _ _ _ h => h) (Or.inl ⟨by rfl, ?_⟩) hHeld ?_
            rotate_left
            · intro w2 hSw
              go_simp
              all_goals rfl
            try simp only [Act.put, List.getElem_toArray, List.getElem_cons_zero, List.getElem_cons_succ, List.setIfInBounds_toArray, List.set_cons_zero, List.set_cons_succ]
            refine wpAnyH_take (i := 6) (v := .bool true) rfl (by kernel_rfl) (by kernel_rfl) (by kernel_rfl) (fun _ _ _ h => h) (Or.inl ⟨by rfl, ?_⟩) hHeld ?_
            · intro w2 hSw
              exact exec_load rfl rfl (run_loadVar_cell9 ((st_v (st_kept14 F9.s hSw)).trans (congrArg (fun x => some (Value.bool x)) hy)) rfl Try.underlying4)
            try simp only [Act.put, List.getElem_toArray, List.getElem_cons_zero, List.getElem_cons_succ, List.setIfInBounds_toArray, List.set_cons_zero, List.set_cons_succ]
            refine wpAnyH_take (i := 7) (v := ?_) rfl (by kernel_rfl) (by kernel_rfl) (by kernel_rfl) (fun _ _ _ h => h) (Or.inl ⟨by rfl, ?_⟩) hHeld ?_
            rotate_left
            · intro w2 hSw
              go_simp
              all_goals rfl
            try simp only [Act.put, List.getElem_toArray, List.getElem_cons_zero, List.getElem_cons_succ, List.setIfInBounds_toArray, List.set_cons_zero, List.set_cons_succ]
            refine wpAnyH_take (i := 8) (v := ?_) rfl (by kernel_rfl) (by kernel_rfl) (by kernel_rfl) (fun _ _ _ h => h) (Or.inl ⟨by rfl, ?_⟩) hHeld ?_
            rotate_left
            · intro w2 hSw
              go_simp
              all_goals rfl
            try simp only [Act.put, List.getElem_toArray, List.getElem_cons_zero, List.getElem_cons_succ, List.setIfInBounds_toArray, List.set_cons_zero, List.set_cons_succ]
            refine wpAnyH_take (i := 9) (v := ?_) rfl (by kernel_rfl) (by kernel_rfl) (by kernel_rfl) (fun _ _ _ h => h) (Or.inl ⟨by rfl, ?_⟩) hHeld ?_
            rotate_left
            · intro w2 hSw
              go_simp
              all_goals rfl
            try simp only [Act.put, List.getElem_toArray, List.getElem_cons_zero, List.getElem_cons_succ, List.setIfInBounds_toArray, List.set_cons_zero, List.set_cons_succ]
            refine wpAnyH_take (i := 10) (v := .bool true) rfl (by kernel_rfl) (by kernel_rfl) (by kernel_rfl) (fun _ _ _ h => h) (Or.inl ⟨by rfl, ?_⟩) hHeld ?_
            · intro w2 hSw
              exact exec_load rfl rfl (run_loadVar_cell9 ((st_v (st_kept14 F9.s hSw)).trans (congrArg (fun x => some (Value.bool x)) hy)) rfl Try.underlying4)
            try simp only [Act.put, List.getElem_toArray, List.getElem_cons_zero, List.getElem_cons_succ, List.setIfInBounds_toArray, List.set_cons_zero, List.set_cons_succ]
            refine wpAnyH_take (i := 11) (v := ?_) rfl (by kernel_rfl) (by kernel_rfl) (by kernel_rfl) (fun _ _ _ h => h) (Or.inl ⟨by rfl, ?_⟩) hHeld ?_
            rotate_left
            · intro w2 hSw
              go_simp
              all_goals rfl
            try simp only [Act.put, List.getElem_toArray, List.getElem_cons_zero, List.getElem_cons_succ, List.setIfInBounds_toArray, List.set_cons_zero, List.set_cons_succ]
            refine wpAnyH_take (i := 12) (v := ?_) rfl (by kernel_rfl) (by kernel_rfl) (by kernel_rfl) (fun _ _ _ h => h) (Or.inl ⟨by rfl, ?_⟩) hHeld ?_
            rotate_left
            · intro w2 hSw
              go_simp
              all_goals rfl
            try simp only [Act.put, List.getElem_toArray, List.getElem_cons_zero, List.getElem_cons_succ, List.setIfInBounds_toArray, List.set_cons_zero, List.set_cons_succ]
            refine wpAnyH_take (i := 13) (v := ?_) rfl (by kernel_rfl) (by kernel_rfl) (by kernel_rfl) (fun _ _ _ h => h) (Or.inl ⟨by rfl, ?_⟩) hHeld ?_
            rotate_left
            · intro w2 hSw
              go_simp
              all_goals rfl
            try simp only [Act.put, List.getElem_toArray, List.getElem_cons_zero, List.getElem_cons_succ, List.setIfInBounds_toArray, List.set_cons_zero, List.set_cons_succ]
            refine wpAnyH_take (i := 14) (v := ?_) rfl (by kernel_rfl) (by kernel_rfl) (by kernel_rfl) (fun _ _ _ h => h) (Or.inl ⟨by rfl, ?_⟩) hHeld ?_
            rotate_left
            · intro w2 hSw
              go_simp
              all_goals rfl
            try simp only [Act.put, List.getElem_toArray, List.getElem_cons_zero, List.getElem_cons_succ, List.setIfInBounds_toArray, List.set_cons_zero, List.set_cons_succ]
            refine wpAnyH_take (i := 15) (v := ?_) rfl (by kernel_rfl) (by kernel_rfl) (by kernel_rfl) (fun _ _ _ h => h) (Or.inl ⟨by rfl, ?_⟩) hHeld ?_
            rotate_left
            · intro w2 hSw
              go_simp
              all_goals rfl
            try simp only [Act.put, List.getElem_toArray, List.getElem_cons_zero, List.getElem_cons_succ, List.setIfInBounds_toArray, List.set_cons_zero, List.set_cons_succ]
            refine wpAnyH_take (i := 16) (v := ?_) rfl (by kernel_rfl) (by kernel_rfl) (by kernel_rfl) (fun _ _ _ h => h) (Or.inl ⟨by rfl, ?_⟩) hHeld ?_
            rotate_left
            · intro w2 hSw
              go_simp
              all_goals rfl
            try simp only [Act.put, List.getElem_toArray, List.getElem_cons_zero, List.getElem_cons_succ, List.setIfInBounds_toArray, List.set_cons_zero, List.set_cons_succ]
            refine wpAnyH_take (i := 17) (v := .int .i64 e.vmid) rfl (by kernel_rfl) (by kernel_rfl) (by kernel_rfl) (fun _ _ _ h => h) (Or.inl ⟨by rfl, ?_⟩) hHeld ?_
            · intro w2 hSw
              exact exec_load rfl rfl (run_loadVar_cell9 (hSw.cell (r9 4 _ rfl)) rfl Try.underlying3)
            try simp only [Act.put, List.getElem_toArray, List.getElem_cons_zero, List.getElem_cons_succ, List.setIfInBounds_toArray, List.set_cons_zero, List.set_cons_succ]
            refine wpAnyH_take (i := 18) (v := ?_) rfl (by kernel_rfl) (by kernel_rfl) (by kernel_rfl) (fun _ _ _ h => h) (Or.inl ⟨by rfl, ?_⟩) hHeld ?_
            rotate_left
            · intro w2 hSw
              go_simp
              all_goals rfl
            try simp only [Act.put, List.getElem_toArray, List.getElem_cons_zero, List.getElem_cons_succ, List.setIfInBounds_toArray, List.set_cons_zero, List.set_cons_succ]
            refine wpAnyH_take (i := 19) (v := ?_) rfl (by kernel_rfl) (by kernel_rfl) (by kernel_rfl) (fun _ _ _ h => h) (Or.inl ⟨by rfl, ?_⟩) hHeld ?_
            rotate_left
            · intro w2 hSw
              go_simp
              all_goals rfl
            try simp only [Act.put, List.getElem_toArray, List.getElem_cons_zero, List.getElem_cons_succ, List.setIfInBounds_toArray, List.set_cons_zero, List.set_cons_succ]
            refine wpAnyH_take (i := 20) (v := .int .u64 (C.C 21)) rfl (by kernel_rfl) (by kernel_rfl) (by kernel_rfl) (fun _ _ _ h => h) (Or.inl ⟨by rfl, ?_⟩) hHeld ?_
            · intro w2 hSw
              exact exec_load rfl rfl (run_loadVar_cell9 ((st_kept14 F9.s hSw).c (i := 21) (by omega)) rfl Try.underlying23)
            try simp only [Act.put, List.getElem_toArray, List.getElem_cons_zero, List.getElem_cons_succ, List.setIfInBounds_toArray, List.set_cons_zero, List.set_cons_succ]
            refine wpAnyH_take (i := 21) (v := ?_) rfl (by kernel_rfl) (by kernel_rfl) (by kernel_rfl) (fun _ _ _ h => h) (Or.inl ⟨by rfl, ?_⟩) hHeld ?_
            rotate_left
            · intro w2 hSw
              go_simp
              all_goals rfl
            try simp only [Act.put, List.getElem_toArray, List.getElem_cons_zero, List.getElem_cons_succ, List.setIfInBounds_toArray, List.set_cons_zero, List.set_cons_succ]
            refine wpAnyH_take (i := 22) (v := ?_) rfl (by kernel_rfl) (by kernel_rfl) (by kernel_rfl) (fun _ _ _ h => h) (Or.inl ⟨by rfl, ?_⟩) hHeld ?_
            rotate_left
            · intro w2 hSw
              go_simp
              all_goals rfl
            try simp only [Act.put, List.getElem_toArray, List.getElem_cons_zero, List.getElem_cons_succ, List.setIfInBounds_toArray, List.set_cons_zero, List.set_cons_succ]
            refine wpAnyH_take (i := 23) (v := ?_) rfl (by kernel_rfl) (by kernel_rfl) (by kernel_rfl) (fun _ _ _ h => h) (Or.inl ⟨by rfl, ?_⟩) hHeld ?_
            rotate_left
            · intro w2 hSw
              go_simp
              all_goals rfl
            try simp only [Act.put, List.getElem_toArray, List.getElem_cons_zero, List.getElem_cons_succ, List.setIfInBounds_toArray, List.set_cons_zero, List.set_cons_succ]
            refine wpAnyH_take (i := 24) (v := ?_) rfl (by kernel_rfl) (by kernel_rfl) (by kernel_rfl) (fun _ _ _ h => h) (Or.inl ⟨by rfl, ?_⟩) hHeld ?_
            rotate_left
            · intro w2 hSw
              go_simp
              all_goals rfl
            try simp only [Act.put, List.getElem_toArray, List.getElem_cons_zero, List.getElem_cons_succ, List.setIfInBounds_toArray, List.set_cons_zero, List.set_cons_succ]
            refine wpAnyH_take (i := 25) (v := ?_) rfl (by kernel_rfl) (by kernel_rfl) (by kernel_rfl) (fun _ _ _ h => h) (Or.inl ⟨by rfl, ?_⟩) hHeld ?_
            rotate_left
            · intro w2 hSw
              go_simp
              all_goals rfl
            try simp only [Act.put, List.getElem_toArray, List.getElem_cons_zero, List.getElem_cons_succ, List.setIfInBounds_toArray, List.set_cons_zero, List.set_cons_succ]
            refine wpAnyH_take (i := 26) (v := ?_) rfl (by kernel_rfl) (by kernel_rfl) (by kernel_rfl) (fun _ _ _ h => h) (Or.inl ⟨by rfl, ?_⟩) hHeld ?_
            rotate_left
            · intro w2 hSw
              go_simp
              all_goals rfl
            try simp only [Act.put, List.getElem_toArray, List.getElem_cons_zero, List.getElem_cons_succ, List.setIfInBounds_toArray, List.set_cons_zero, List.set_cons_succ]
            refine wpAnyH_done (by kernel_rfl) ?_ _
            clear hHeld r9
            go_wp2_with fail
            exact ⟨⟨j + 1, by omega, by go_num, kE9⟩, by simp [intOf]; omega⟩
          · clear hno
            refine wpAnyH_take (i := 0) (v := ?_) rfl (by kernel_rfl) (by kernel_rfl) (by kernel_rfl) (fun _ _ _ h => h) (Or.inl ⟨by rfl, ?_⟩) hHeld ?_
            rotate_left
            · intro w2 hSw
              go_simp
              all_goals rfl
            try simp only [Act.put, List.getElem_toArray, List.getElem_cons_zero, List.setIfInBounds_toArray, List.set_cons_zero, List.set_cons_succ]
            refine wpAnyH_take (i := 1) (v := ?_) rfl (by kernel_rfl) (by kernel_rfl) (by kernel_rfl) (fun _ _ _ h => h) (Or.inl ⟨by rfl, ?_⟩) hHeld ?_
            rotate_left
            · intro w2 hSw
              go_simp
              all_goals rfl
            try simp only [Act.put, List.getElem_toArray, List.getElem_cons_zero, List.getElem_cons_succ, List.setIfInBounds_toArray, List.set_cons_zero, List.set_cons_succ]
            refine wpAnyH_take (i := 2) (v := ?_) rfl (by kernel_rfl) (by kernel_rfl) (by kernel_rfl) (fun _ _ _ h => h) (Or.inl ⟨by rfl, ?_⟩) hHeld ?_
            rotate_left
            · intro w2 hSw
              go_simp
              all_goals rfl
            try simp only [Act.put, List.getElem_toArray, List.getElem_cons_zero, List.getElem_cons_succ, List.setIfInBounds_toArray, List.set_cons_zero, List.set_cons_succ]
            refine wpAnyH_take (i := 3) (v := ?_) rfl (by kernel_rfl) (by kernel_rfl) (by kernel_rfl) (fun _ _ _ h => h) (Or.inl ⟨by rfl, ?_⟩) hHeld ?_
            rotate_left
            · intro w2 hSw
              go_simp
              all_goals rfl
            try simp only [Act.put, List.getElem_toArray, List.getElem_cons_zero, List.getElem_cons_succ, List.setIfInBounds_toArray, List.set_cons_zero, List.set_cons_succ]
            refine wpAnyH_take (i := 4) (v := .bool true) rfl (by kernel_rfl) (by kernel_rfl) (by kernel_rfl) (fun _ _ _ h => h) (Or.inl ⟨by rfl, ?_⟩) hHeld ?_
            · intro w2 hSw
              exact exec_load rfl rfl (run_loadVar_cell9 ((hSw.cell (r9 1 _ rfl)).trans (congrArg (fun x => some (Value.bool x)) hx)) rfl Try.underlying4)
            try simp only [Act.put, List.getElem_toArray, List.getElem_cons_zero, List.getElem_cons_succ, List.setIfInBounds_toArray, List.set_cons_zero, List.set_cons_succ]
            refine wpAnyH_take (i := 5) (v := ?_) rfl (by kernel_rfl) (by kernel_rfl) (by kernel_rfl) (fun _ _ _ h => h) (Or.inl ⟨by rfl, ?_⟩) hHeld ?_
            rotate_left
            · intro w2 hSw
              go_simp
              all_goals rfl
            try simp only [Act.put, List.getElem_toArray, List.getElem_cons_zero, List.getElem_cons_succ, List.setIfInBounds_toArray, List.set_cons_zero, List.set_cons_succ]
            refine wpAnyH_take (i := 6) (v := .bool false) rfl (by kernel_rfl) (by kernel_rfl) (by kernel_rfl) (fun _ _ _ h => h) (Or.inl ⟨by rfl, ?_⟩) hHeld ?_
            · intro w2 hSw
              exact exec_load rfl rfl (run_loadVar_cell9 ((st_v (st_kept14 F9.s hSw)).trans (congrArg (fun x => some (Value.bool x)) hy)) rfl Try.underlying4)
            try simp only [Act.put, List.getElem_toArray, List.getElem_cons_zero, List.getElem_cons_succ, List.setIfInBounds_toArray, List.set_cons_zero, List.set_cons_succ]
            refine wpAnyH_take (i := 7) (v := ?_) rfl (by kernel_rfl) (by kernel_rfl) (by kernel_rfl) (fun _ _ _ h => h) (Or.inl ⟨by rfl, ?_⟩) hHeld ?_
            rotate_left
            · intro w2 hSw
              go_simp
              all_goals rfl
            try simp only [Act.put, List.getElem_toArray, List.getElem_cons_zero, List.getElem_cons_succ, List.setIfInBounds_toArray, List.set_cons_zero, List.set_cons_succ]
            refine wpAnyH_take (i := 8) (v := ?_) rfl (by kernel_rfl) (by kernel_rfl) (by kernel_rfl) (fun _ _ _ h => h) (Or.inl ⟨by rfl, ?_⟩) hHeld ?_
            rotate_left
            · intro w2 hSw
              go_simp
              all_goals rfl
            try simp only [Act.put, List.getElem_toArray, List.getElem_cons_zero, List.getElem_cons_succ, List.setIfInBounds_toArray, List.set_cons_zero, List.set_cons_succ]
            refine wpAnyH_take (i := 9) rfl (by kernel_rfl) (by kernel_rfl) (by kernel_rfl) (fun _ _ _ h => h) (Or.inr ⟨by rfl, rfl⟩) hHeld ?_
            try simp only [Act.put, List.getElem_toArray, List.getElem_cons_zero, List.getElem_cons_succ, List.setIfInBounds_toArray, List.set_cons_zero, List.set_cons_succ]
            refine wpAnyH_take (i := 10) rfl (by kernel_rfl) (by kernel_rfl) (by kernel_rfl) (fun _ _ _ h => h) (Or.inr ⟨by rfl, rfl⟩) hHeld ?_
            try simp only [Act.put, List.getElem_toArray, List.getElem_cons_zero, List.getElem_cons_succ, List.setIfInBounds_toArray, List.set_cons_zero, List.set_cons_succ]
            refine wpAnyH_take (i := 11) rfl (by kernel_rfl) (by kernel_rfl) (by kernel_rfl) (fun _ _ _ h => h) (Or.inr ⟨by rfl, rfl⟩) hHeld ?_
            try simp only [Act.put, List.getElem_toArray, List.getElem_cons_zero, List.getElem_cons_succ, List.setIfInBounds_toArray, List.set_cons_zero, List.set_cons_succ]
            refine wpAnyH_take (i := 12) rfl (by kernel_rfl) (by kernel_rfl) (by kernel_rfl) (fun _ _ _ h => h) (Or.inr ⟨by rfl, rfl⟩) hHeld ?_
            try simp only [Act.put, List.getElem_toArray, List.getElem_cons_zero, List.getElem_cons_succ, List.setIfInBounds_toArray, List.set_cons_zero, List.set_cons_succ]
            refine wpAnyH_take (i := 13) rfl (by kernel_rfl) (by kernel_rfl) (by kernel_rfl) (fun _ _ _ h => h) (Or.inr ⟨by rfl, rfl⟩) hHeld ?_
            try simp only [Act.put, List.getElem_toArray, List.getElem_cons_zero, List.getElem_cons_succ, List.setIfInBounds_toArray, List.set_cons_zero, List.set_cons_succ]
            refine wpAnyH_take (i := 14) rfl (by kernel_rfl) (by kernel_rfl) (by kernel_rfl) (fun _ _ _ h => h) (Or.inr ⟨by rfl, rfl⟩) hHeld ?_
            try simp only [Act.put, List.getElem_toArray, List.getElem_cons_zero, List.getElem_cons_succ, List.setIfInBounds_toArray, List.set_cons_zero, List.set_cons_succ]
            refine wpAnyH_take (i := 15) rfl (by kernel_rfl) (by kernel_rfl) (by kernel_rfl) (fun _ _ _ h => h) (Or.inr ⟨by rfl, rfl⟩) hHeld ?_
            try simp only [Act.put, List.getElem_toArray, List.getElem_cons_zero, List.getElem_cons_succ, List.setIfInBounds_toArray, List.set_cons_zero, List.set_cons_succ]
            refine wpAnyH_take (i := 16) rfl (by kernel_rfl) (by kernel_rfl) (by kernel_rfl) (fun _ _ _ h => h) (Or.inr ⟨by rfl, rfl⟩) hHeld ?_
            try simp only [Act.put, List.getElem_toArray, List.getElem_cons_zero, List.getElem_cons_succ, List.setIfInBounds_toArray, List.set_cons_zero, List.set_cons_succ]
            refine wpAnyH_take (i := 17) rfl (by kernel_rfl) (by kernel_rfl) (by kernel_rfl) (fun _ _ _ h => h) (Or.inr ⟨by rfl, rfl⟩) hHeld ?_
            try simp only [Act.put, List.getElem_toArray, List.getElem_cons_zero, List.getElem_cons_succ, List.setIfInBounds_toArray, List.set_cons_zero, List.set_cons_succ]
            refine wpAnyH_take (i := 18) rfl (by kernel_rfl) (by kernel_rfl) (by kernel_rfl) (fun _ _ _ h => h) (Or.inr ⟨by rfl, rfl⟩) hHeld ?_
            try simp only [Act.put, List.getElem_toArray, List.getElem_cons_zero, List.getElem_cons_succ, List.setIfInBounds_toArray, List.set_cons_zero, List.set_cons_succ]
            refine wpAnyH_take (i := 19) rfl (by kernel_rfl) (by kernel_rfl) (by kernel_rfl) (fun _ _ _ h => h) (Or.inr ⟨by rfl, rfl⟩) hHeld ?_
            try simp only [Act.put, List.getElem_toArray, List.getElem_cons_zero, List.getElem_cons_succ, List.setIfInBounds_toArray, List.set_cons_zero, List.set_cons_succ]
            refine wpAnyH_take (i := 20) rfl (by kernel_rfl) (by kernel_rfl) (by kernel_rfl) (fun _ _ _ h => h) (Or.inr ⟨by rfl, rfl⟩) hHeld ?_
            try simp only [Act.put, List.getElem_toArray, List.getElem_cons_zero, List.getElem_cons_succ, List.setIfInBounds_toArray, List.set_cons_zero, List.set_cons_succ]
            refine wpAnyH_take (i := 21) rfl (by kernel_rfl) (by kernel_rfl) (by kernel_rfl) (fun _ _ _ h => h) (Or.inr ⟨by rfl, rfl⟩) hHeld ?_
            try simp only [Act.put, List.getElem_toArray, List.getElem_cons_zero, List.getElem_cons_succ, List.setIfInBounds_toArray, List.set_cons_zero, List.set_cons_succ]
            refine wpAnyH_take (i := 22) rfl (by kernel_rfl) (by kernel_rfl) (by kernel_rfl) (fun _ _ _ h => h) (Or.inr ⟨by rfl, rfl⟩) hHeld ?_
            try simp only [Act.put, List.getElem_toArray, List.getElem_cons_zero, List.getElem_cons_succ, List.setIfInBounds_toArray, List.set_cons_zero, List.set_cons_succ]
            refine wpAnyH_take (i := 23) rfl (by kernel_rfl) (by kernel_rfl) (by kernel_rfl) (fun _ _ _ h => h) (Or.inr ⟨by rfl, rfl⟩) hHeld ?_
            try simp only [Act.put, List.getElem_toArray, List.getElem_cons_zero, List.getElem_cons_succ, List.setIfInBounds_toArray, List.set_cons_zero, List.set_cons_succ]
            refine wpAnyH_take (i := 24) rfl (by kernel_rfl) (by kernel_rfl) (by kernel_rfl) (fun _ _ _ h => h) (Or.inr ⟨by rfl, rfl⟩) hHeld ?_
            try simp only [Act.put, List.getElem_toArray, List.getElem_cons_zero, List.getElem_cons_succ, List.setIfInBounds_toArray, List.set_cons_zero, List.set_cons_succ]
            refine wpAnyH_take (i := 25) rfl (by kernel_rfl) (by kernel_rfl) (by kernel_rfl) (fun _ _ _ h => h) (Or.inr ⟨by rfl, rfl⟩) hHeld ?_
            try simp only [Act.put, List.getElem_toArray, List.getElem_cons_zero, List.getElem_cons_succ, List.setIfInBounds_toArray, List.set_cons_zero, List.set_cons_succ]
            refine wpAnyH_take (i := 26) (v := ?_) rfl (by kernel_rfl) (by kernel_rfl) (by kernel_rfl) (fun _ _ _ h => h) (Or.inl ⟨by rfl, ?_⟩) hHeld ?_
            rotate_left
            · intro w2 hSw
              go_simp
              all_goals rfl
            try simp only [Act.put, List.getElem_toArray, List.getElem_cons_zero, List.getElem_cons_succ, List.setIfInBounds_toArray, List.set_cons_zero, List.set_cons_succ]
            refine wpAnyH_done (by kernel_rfl) ?_ _
            clear hHeld r9
            go_wp2_with fail
            exact ⟨⟨j + 1, by omega, by go_num, kE9⟩, by simp [intOf]; omega⟩
          · clear hno
            refine wpAnyH_take (i := 0) (v := ?_) rfl (by kernel_rfl) (by kernel_rfl) (by kernel_rfl) (fun _ _ _ h => h) (Or.inl ⟨by rfl, ?_⟩) hHeld ?_
            rotate_left
            · intro w2 hSw
              go_simp
              all_goals rfl
            try simp only [Act.put, List.getElem_toArray, List.getElem_cons_zero, List.setIfInBounds_toArray, List.set_cons_zero, List.set_cons_succ]
            refine wpAnyH_take (i := 1) (v := ?_) rfl (by kernel_rfl) (by kernel_rfl) (by kernel_rfl) (fun _ _ _ h => h) (Or.inl ⟨by rfl, ?_⟩) hHeld ?_
            rotate_left
            · intro w2 hSw
              go_simp
              all_goals rfl
            try simp only [Act.put, List.getElem_toArray, List.getElem_cons_zero, List.getElem_cons_succ, List.setIfInBounds_toArray, List.set_cons_zero, List.set_cons_succ]
            refine wpAnyH_take (i := 2) (v := ?_) rfl (by kernel_rfl) (by kernel_rfl) (by kernel_rfl) (fun _ _ _ h => h) (Or.inl ⟨by rfl, ?_⟩) hHeld ?_
            rotate_left
            · intro w2 hSw
              go_simp
              all_goals rfl
            try simp only [Act.put, List.getElem_toArray, List.getElem_cons_zero, List.getElem_cons_succ, List.setIfInBounds_toArray, List.set_cons_zero, List.set_cons_succ]
            refine wpAnyH_take (i := 3) (v := ?_) rfl (by kernel_rfl) (by kernel_rfl) (by kernel_rfl) (fun _ _ _ h => h) (Or.inl ⟨by rfl, ?_⟩) hHeld ?_
            rotate_left
            · intro w2 hSw
              go_simp
              all_goals rfl
            try simp only [Act.put, List.getElem_toArray, List.getElem_cons_zero, List.getElem_cons_succ, List.setIfInBounds_toArray, List.set_cons_zero, List.set_cons_succ]
            refine wpAnyH_take (i := 4) (v := .bool false) rfl (by kernel_rfl) (by kernel_rfl) (by kernel_rfl) (fun _ _ _ h => h) (Or.inl ⟨by rfl, ?_⟩) hHeld ?_
            · intro w2 hSw
              exact exec_load rfl rfl (run_loadVar_cell9 ((hSw.cell (r9 1 _ rfl)).trans (congrArg (fun x => some (Value.bool x)) hx)) rfl Try.underlying4)
            try simp only [Act.put, List.getElem_toArray, List.getElem_cons_zero, List.getElem_cons_succ, List.setIfInBounds_toArray, List.set_cons_zero, List.set_cons_succ]
            refine wpAnyH_take (i := 5) (v := ?_) rfl (by kernel_rfl) (by kernel_rfl) (by kernel_rfl) (fun _ _ _ h => h) (Or.inl ⟨by rfl, ?_⟩) hHeld ?_
            rotate_left
            · intro w2 hSw
              go_simp
              all_goals rfl
            try simp only [Act.put, List.getElem_toArray, List.getElem_cons_zero, List.getElem_cons_succ, List.setIfInBounds_toArray, List.set_cons_zero, List.set_cons_succ]
            refine wpAnyH_take (i := 6) (v := .bool true) rfl (by kernel_rfl) (by kernel_rfl) (by kernel_rfl) (fun _ _ _ h => h) (Or.inl ⟨by rfl, ?_⟩) hHeld ?_
            · intro w2 hSw
              exact exec_load rfl rfl (run_loadVar_cell9 ((st_v (st_kept14 F9.s hSw)).trans (congrArg (fun x => some (Value.bool x)) hy)) rfl Try.underlying4)
            try simp only [Act.put, List.getElem_toArray, List.getElem_cons_zero, List.getElem_cons_succ, List.setIfInBounds_toArray, List.set_cons_zero, List.set_cons_succ]
            refine wpAnyH_take (i := 7) (v := ?_) rfl (by kernel_rfl) (by kernel_rfl) (by kernel_rfl) (fun _ _ _ h => h) (Or.inl ⟨by rfl, ?_⟩) hHeld ?_
            rotate_left
            · intro w2 hSw
              go_simp
              all_goals rfl
            try simp only [Act.put, List.getElem_toArray, List.getElem_cons_zero, List.getElem_cons_succ, List.setIfInBounds_toArray, List.set_cons_zero, List.set_cons_succ]
            refine wpAnyH_take (i := 8) (v := ?_) rfl (by kernel_rfl) (by kernel_rfl) (by kernel_rfl) (fun _ _ _ h => h) (Or.inl ⟨by rfl, ?_⟩) hHeld ?_
            rotate_left
            · intro w2 hSw
              go_simp
              all_goals rfl
            try simp only [Act.put, List.getElem_toArray, List.getElem_cons_zero, List.getElem_cons_succ, List.setIfInBounds_toArray, List.set_cons_zero, List.set_cons_succ]
            refine wpAnyH_take (i := 9) rfl (by kernel_rfl) (by kernel_rfl) (by kernel_rfl) (fun _ _ _ h => h) (Or.inr ⟨by rfl, rfl⟩) hHeld ?_
            try simp only [Act.put, List.getElem_toArray, List.getElem_cons_zero, List.getElem_cons_succ, List.setIfInBounds_toArray, List.set_cons_zero, List.set_cons_succ]
            refine wpAnyH_take (i := 10) rfl (by kernel_rfl) (by kernel_rfl) (by kernel_rfl) (fun _ _ _ h => h) (Or.inr ⟨by rfl, rfl⟩) hHeld ?_
            try simp only [Act.put, List.getElem_toArray, List.getElem_cons_zero, List.getElem_cons_succ, List.setIfInBounds_toArray, List.set_cons_zero, List.set_cons_succ]
            refine wpAnyH_take (i := 11) rfl (by kernel_rfl) (by kernel_rfl) (by kernel_rfl) (fun _ _ _ h => h) (Or.inr ⟨by rfl, rfl⟩) hHeld ?_
            try simp only [Act.put, List.getElem_toArray, List.getElem_cons_zero, List.getElem_cons_succ, List.setIfInBounds_toArray, List.set_cons_zero, List.set_cons_succ]
            refine wpAnyH_take (i := 12) rfl (by kernel_rfl) (by kernel_rfl) (by kernel_rfl) (fun _ _ _ h => h) (Or.inr ⟨by rfl, rfl⟩) hHeld ?_
            try simp only [Act.put, List.getElem_toArray, List.getElem_cons_zero, List.getElem_cons_succ, List.setIfInBounds_toArray, List.set_cons_zero, List.set_cons_succ]
            refine wpAnyH_take (i := 13) rfl (by kernel_rfl) (by kernel_rfl) (by kernel_rfl) (fun _ _ _ h => h) (Or.inr ⟨by rfl, rfl⟩) hHeld ?_
            try simp only [Act.put, List.getElem_toArray, List.getElem_cons_zero, List.getElem_cons_succ, List.setIfInBounds_toArray, List.set_cons_zero, List.set_cons_succ]
            refine wpAnyH_take (i := 14) rfl (by kernel_rfl) (by kernel_rfl) (by kernel_rfl) (fun _ _ _ h => h) (Or.inr ⟨by rfl, rfl⟩) hHeld ?_
            try simp only [Act.put, List.getElem_toArray, List.getElem_cons_zero, List.getElem_cons_succ, List.setIfInBounds_toArray, List.set_cons_zero, List.set_cons_succ]
            refine wpAnyH_take (i := 15) rfl (by kernel_rfl) (by kernel_rfl) (by kernel_rfl) (fun _ _ _ h => h) (Or.inr ⟨by rfl, rfl⟩) hHeld ?_
            try simp only [Act.put, List.getElem_toArray, List.getElem_cons_zero, List.getElem_cons_succ, List.setIfInBounds_toArray, List.set_cons_zero, List.set_cons_succ]
            refine wpAnyH_take (i := 16) rfl (by kernel_rfl) (by kernel_rfl) (by kernel_rfl) (fun _ _ _ h => h) (Or.inr ⟨by rfl, rfl⟩) hHeld ?_
            try simp only [Act.put, List.getElem_toArray, List.getElem_cons_zero, List.getElem_cons_succ, List.setIfInBounds_toArray, List.set_cons_zero, List.set_cons_succ]
            refine wpAnyH_take (i := 17) rfl (by kernel_rfl) (by kernel_rfl) (by kernel_rfl) (fun _ _ _ h => h) (Or.inr ⟨by rfl, rfl⟩) hHeld ?_
            try simp only [Act.put, List.getElem_toArray, List.getElem_cons_zero, List.getElem_cons_succ, List.setIfInBounds_toArray, List.set_cons_zero, List.set_cons_succ]
            refine wpAnyH_take (i := 18) rfl (by kernel_rfl) (by kernel_rfl) (by kernel_rfl) (fun _ _ _ h => h) (Or.inr ⟨by rfl, rfl⟩) hHeld ?_
            try simp only [Act.put, List.getElem_toArray, List.getElem_cons_zero, List.getElem_cons_succ, List.setIfInBounds_toArray, List.set_cons_zero, List.set_cons_succ]
            refine wpAnyH_take (i := 19) rfl (by kernel_rfl) (by kernel_rfl) (by kernel_rfl) (fun _ _ _ h => h) (Or.inr ⟨by rfl, rfl⟩) hHeld ?_
            try simp only [Act.put, List.getElem_toArray, List.getElem_cons_zero, List.getElem_cons_succ, List.setIfInBounds_toArray, List.set_cons_zero, List.set_cons_succ]
            refine wpAnyH_take (i := 20) rfl (by kernel_rfl) (by kernel_rfl) (by kernel_rfl) (fun _ _ _ h => h) (Or.inr ⟨by rfl, rfl⟩) hHeld ?_
            try simp only [Act.put, List.getElem_toArray, List.getElem_cons_zero, List.getElem_cons_succ, List.setIfInBounds_toArray, List.set_cons_zero, List.set_cons_succ]
            refine wpAnyH_take (i := 21) rfl (by kernel_rfl) (by kernel_rfl) (by kernel_rfl) (fun _ _ _ h => h) (Or.inr ⟨by rfl, rfl⟩) hHeld ?_
            try simp only [Act.put, List.getElem_toArray, List.getElem_cons_zero, List.getElem_cons_succ, List.setIfInBounds_toArray, List.set_cons_zero, List.set_cons_succ]
            refine wpAnyH_take (i := 22) rfl (by kernel_rfl) (by kernel_rfl) (by kernel_rfl) (fun _ _ _ h => h) (Or.inr ⟨by rfl, rfl⟩) hHeld ?_
            try simp only [Act.put, List.getElem_toArray, List.getElem_cons_zero, List.getElem_cons_succ, List.setIfInBounds_toArray, List.set_cons_zero, List.set_cons_succ]
            refine wpAnyH_take (i := 23) rfl (by kernel_rfl) (by kernel_rfl) (by kernel_rfl) (fun _ _ _ h => h) (Or.inr ⟨by rfl, rfl⟩) hHeld ?_
            try simp only [Act.put, List.getElem_toArray, List.getElem_cons_zero, List.getElem_cons_succ, List.setIfInBounds_toArray, List.set_cons_zero, List.set_cons_succ]
            refine wpAnyH_take (i := 24) rfl (by kernel_rfl) (by kernel_rfl) (by kernel_rfl) (fun _ _ _ h => h) (Or.inr ⟨by rfl, rfl⟩) hHeld ?_
            try simp only [Act.put, List.getElem_toArray, List.getElem_cons_zero, List.getElem_cons_succ, List.setIfInBounds_toArray, List.set_cons_zero, List.set_cons_succ]
            refine wpAnyH_take (i := 25) rfl (by kernel_rfl) (by kernel_rfl) (by kernel_rfl) (fun _ _ _ h => h) (Or.inr ⟨by rfl, rfl⟩) hHeld ?_
            try simp only [Act.put, List.getElem_toArray, List.getElem_cons_zero, List.getElem_cons_succ, List.setIfInBounds_toArray, List.set_cons_zero, List.set_cons_succ]
            refine wpAnyH_take (i := 26) (v := ?_) rfl (by kernel_rfl) (by kernel_rfl) (by kernel_rfl) (fun _ _ _ h => h) (Or.inl ⟨by rfl, ?_⟩) hHeld ?_
            rotate_left
            · intro w2 hSw
              go_simp
              all_goals rfl
            try simp only [Act.put, List.getElem_toArray, List.getElem_cons_zero, List.getElem_cons_succ, List.setIfInBounds_toArray, List.set_cons_zero, List.set_cons_succ]
            refine wpAnyH_done (by kernel_rfl) ?_ _
            clear hHeld r9
            go_wp2_with fail
            exact ⟨⟨j + 1, by omega, by go_num, kE9⟩, by simp [intOf]; omega⟩
          · exact absurd ⟨by rw [hx, hy], .inl hy⟩ hno
        · obtain rfl : j = B.length := by omega
          clear oR hk lf hlt
          obtain ⟨ba1, ba2⟩ := ba
          have hc1 : cntT (hosB (-1) (-1)) T1 ≤ 16 := cnt_le _ T1 16
          have hc2 : cntT (sfeB (setV C false) false (-1) (-1)) (wipeT (hosB (-1) (-1)) T1) ≤ 16 := cnt_le _ _ 16
          go_upto_region 23 with fail
          have F9 := FR.kept ((Only.refl _ wr).drew)
          clear FR
          refine wp_region_held_drew (S := fun w2 => Only (fun i => i = b) wr.drew w2) (by kernel_rfl) (Only.refl _ _) (fun hHeld => ?_)
          generalize wr.drew = wd at *
          refine wpAnyH_take (i := 0) (v := ?_) rfl (by kernel_rfl) (by kernel_rfl) (by kernel_rfl) (fun _ _ _ h => h) (Or.inl ⟨by rfl, ?_⟩) hHeld ?_
          rotate_left
          · intro w2 hSw
            go_simp
            all_goals rfl
          try simp only [Act.put, List.getElem_toArray, List.getElem_cons_zero, List.setIfInBounds_toArray, List.set_cons_zero, List.set_cons_succ]
          refine wpAnyH_take (i := 1) (v := .agg (rowOf 65 (stF C))) rfl (by kernel_rfl) (by kernel_rfl) (by kernel_rfl) (fun _ _ _ h => h) (Or.inl ⟨by rfl, ?_⟩) hHeld ?_
          · intro w2 hSw
            exact exec_load rfl rfl (load_state (st_past14 F9.s hSw (fun x => F9.bs x.symm)))
          try simp only [Act.put, List.getElem_toArray, List.getElem_cons_zero, List.getElem_cons_succ, List.setIfInBounds_toArray, List.set_cons_zero, List.set_cons_succ]
          refine wpAnyH_take (i := 3) (v := ?_) rfl (by kernel_rfl) (by kernel_rfl) (by kernel_rfl) (fun _ _ _ h => h) (Or.inl ⟨by rfl, ?_⟩) hHeld ?_
          rotate_left
          · intro w2 hSw
            go_simp
            all_goals rfl
          try simp only [Act.put, List.getElem_toArray, List.getElem_cons_zero, List.getElem_cons_succ, List.setIfInBounds_toArray, List.set_cons_zero, List.set_cons_succ]
          refine wpAnyH_take (i := 4) (v := .agg (rowOf 65 (stF C))) rfl (by kernel_rfl) (by kernel_rfl) (by kernel_rfl) (fun _ _ _ h => h) (Or.inl ⟨by rfl, ?_⟩) hHeld ?_
          · intro w2 hSw
            exact exec_load rfl rfl (load_state (st_past14 F9.s hSw (fun x => F9.bs x.symm)))
          try simp only [Act.put, List.getElem_toArray, List.getElem_cons_zero, List.getElem_cons_succ, List.setIfInBounds_toArray, List.set_cons_zero, List.set_cons_succ]
          refine wpAnyH_take (i := 8) (v := ?_) rfl (by kernel_rfl) (by kernel_rfl) (by kernel_rfl) (fun _ _ _ h => h) (Or.inl ⟨by rfl, ?_⟩) hHeld ?_
          rotate_left
          · intro w2 hSw
            go_simp
            all_goals rfl
          try simp only [Act.put, List.getElem_toArray, List.getElem_cons_zero, List.getElem_cons_succ, List.setIfInBounds_toArray, List.set_cons_zero, List.set_cons_succ]
          refine wpAnyH_take (i := 9) (v := ?_) rfl (by kernel_rfl) (by kernel_rfl) (by kernel_rfl) (fun _ _ _ h => h) (Or.inl ⟨by rfl, ?_⟩) hHeld ?_
          rotate_left
          · intro w2 hSw
            go_simp
            all_goals rfl
          try simp only [Act.put, List.getElem_toArray, List.getElem_cons_zero, List.getElem_cons_succ, List.setIfInBounds_toArray, List.set_cons_zero, List.set_cons_succ]
          refine wpAnyH_ready (rs := [2]) (by kernel_rfl) (by simp) ?_
          refine AllReadyH.cons rfl (fun K hK => ?_) AllReadyH.nil
          go_simp
          refine (fhost_any (hT.kept F9.k) F9.m F9.g hC (-1) (-1)).mono ?_
          rintro r wA ⟨rfl, mA, gA⟩
          have FA := F9.turnB gA mA (inv_wipe F9.g _ 16)
          go_simp
          refine hK.out _ _ gA (fun hHeld => ?_)
          clear hK K F9 mA
          try simp only [Act.put, List.getElem_toArray, List.getElem_cons_zero, List.getElem_cons_succ, List.setIfInBounds_toArray, List.set_cons_zero, List.set_cons_succ]
          refine wpAnyH_ready (rs := [5]) (by kernel_rfl) (by simp) ?_
          refine AllReadyH.cons rfl (fun K hK => ?_) AllReadyH.nil
          go_simp
          refine (noguest_any C wA).mono ?_
          rintro r wB ⟨rfl, kB⟩
          have FB := FA.kept kB
          have gB := gA.trans (kB.mono fun _ x => x.elim)
          go_simp
          refine hK.out _ _ gB (fun hHeld => ?_)
          clear hK K FA gA kB
          try simp only [Act.put, List.getElem_toArray, List.getElem_cons_zero, List.getElem_cons_succ, List.setIfInBounds_toArray, List.set_cons_zero, List.set_cons_succ]
          refine wpAnyH_ready (rs := [6]) (by kernel_rfl) (by simp) ?_
          refine AllReadyH.cons rfl (fun K hK => ?_) AllReadyH.nil
          go_simp
          refine (fsfence_any (hT.kept FB.k) FB.m FB.g (setV_ok hC false) (-1) (-1)).mono ?_
          rintro r wC ⟨rfl, mC, gC⟩
          have FC := FB.turnB gC mC (inv_wipe FB.g _ 16)
          have gD := gB.trans gC
          generalize hq1 : cntT (hosB (-1) (-1)) T1 = n1 at *
          generalize hq2 : cntT (sfeB (setV C false) (setV C false).v (-1) (-1)) (wipeT (hosB (-1) (-1)) T1) = n2 at *
          have ba3 : n1 + n2 = B.length := by rw [← ba1, ← hq2]; rfl
          have hn2 : n2 ≤ 16 := by rw [← hq2]; exact hc2
          have ba4 : (n1 : Int) + (n2 : Int) = (B.length : Int) := by omega
          have b1 : (n1 : Int) ≤ 16 := by omega
          have b2 : (n2 : Int) ≤ 16 := by omega
          have hw2 : IntKind.i64.wrap (B.length : Int) = (B.length : Int) := by rw [IntKind.wrap_i64]; omega
          clear hq1 hq2 hc1 hc2 ba1 ba3
          go_simp
          refine hK.out _ _ gD (fun hHeld => ?_)
          clear hK K FB mC gC gB
          try simp only [Act.put, List.getElem_toArray, List.getElem_cons_zero, List.getElem_cons_succ, List.setIfInBounds_toArray, List.set_cons_zero, List.set_cons_succ]
          refine wpAnyH_take (i := 7) (v := ?_) rfl (by kernel_rfl) (by kernel_rfl) (by kernel_rfl) (fun _ _ _ h => h) (Or.inl ⟨by rfl, ?_⟩) hHeld ?_
          rotate_left
          · intro w2 hSw
            go_simp
            all_goals rfl
          try simp only [Act.put, List.getElem_toArray, List.getElem_cons_zero, List.getElem_cons_succ, List.setIfInBounds_toArray, List.set_cons_zero, List.set_cons_succ]
          refine wpAnyH_take (i := 10) (v := ?_) rfl (by kernel_rfl) (by kernel_rfl) (by kernel_rfl) (fun _ _ _ h => h) (Or.inl ⟨by rfl, ?_⟩) hHeld ?_
          rotate_left
          · intro w2 hSw
            go_simp
            all_goals rfl
          try simp only [Act.put, List.getElem_toArray, List.getElem_cons_zero, List.getElem_cons_succ, List.setIfInBounds_toArray, List.set_cons_zero, List.set_cons_succ]
          refine wpAnyH_take (i := 11) (v := ?_) rfl (by kernel_rfl) (by kernel_rfl) (by kernel_rfl) (fun _ _ _ h => h) (Or.inl ⟨by rfl, ?_⟩) hHeld ?_
          rotate_left
          · intro w2 hSw
            go_simp
            all_goals rfl
          try simp only [Act.put, List.getElem_toArray, List.getElem_cons_zero, List.getElem_cons_succ, List.setIfInBounds_toArray, List.set_cons_zero, List.set_cons_succ]
          refine wpAnyH_take (i := 12) (v := ?_) rfl (by kernel_rfl) (by kernel_rfl) (by kernel_rfl) (fun _ _ _ h => h) (Or.inl ⟨by rfl, ?_⟩) hHeld ?_
          rotate_left
          · intro w2 hSw
            go_simp
            all_goals rfl
          try simp only [Act.put, List.getElem_toArray, List.getElem_cons_zero, List.getElem_cons_succ, List.setIfInBounds_toArray, List.set_cons_zero, List.set_cons_succ]
          refine wpAnyH_ready (rs := [13]) (by kernel_rfl) (by simp) ?_
          refine AllReadyH.cons rfl (fun K hK => ?_) AllReadyH.nil
          go_simp
          refine (tall_any (hT.kept FC.k).tl FC.m).mono ?_
          rintro r wD ⟨v, rfl, ow, kD⟩
          have FD := FC.kept kD
          have gE := gD.trans (kD.mono fun _ x => x.elim)
          obtain ⟨qx, cx, rfl⟩ := ow.form
          rw [show (allT (wipeT (sfeB (setV C false) (setV C false).v (-1) (-1)) (wipeT (hosB (-1) (-1)) T1))).length = 0 from ba2]
          go_simp
          refine hK.out _ _ gE (fun hHeld => ?_)
          clear hK K FC kD ow
          try simp only [Act.put, List.getElem_toArray, List.getElem_cons_zero, List.getElem_cons_succ, List.setIfInBounds_toArray, List.set_cons_zero, List.set_cons_succ]
          refine wpAnyH_take (i := 14) (v := ?_) rfl (by kernel_rfl) (by kernel_rfl) (by kernel_rfl) (fun _ _ _ h => h) (Or.inl ⟨by rfl, ?_⟩) hHeld ?_
          rotate_left
          · intro w2 hSw
            go_simp
            all_goals rfl
          try simp only [Act.put, List.getElem_toArray, List.getElem_cons_zero, List.getElem_cons_succ, List.setIfInBounds_toArray, List.set_cons_zero, List.set_cons_succ]
          refine wpAnyH_take (i := 15) (v := ?_) rfl (by kernel_rfl) (by kernel_rfl) (by kernel_rfl) (fun _ _ _ h => h) (Or.inl ⟨by rfl, ?_⟩) hHeld ?_
          rotate_left
          · intro w2 hSw
            go_simp
            all_goals rfl
          try simp only [Act.put, List.getElem_toArray, List.getElem_cons_zero, List.getElem_cons_succ, List.setIfInBounds_toArray, List.set_cons_zero, List.set_cons_succ]
          refine wpAnyH_take (i := 16) (v := ?_) rfl (by kernel_rfl) (by kernel_rfl) (by kernel_rfl) (fun _ _ _ h => h) (Or.inl ⟨by rfl, ?_⟩) hHeld ?_
          rotate_left
          · intro w2 hSw
            go_simp
            all_goals rfl
          try simp only [Act.put, List.getElem_toArray, List.getElem_cons_zero, List.getElem_cons_succ, List.setIfInBounds_toArray, List.set_cons_zero, List.set_cons_succ]
          refine wpAnyH_take (i := 17) (v := ?_) rfl (by kernel_rfl) (by kernel_rfl) (by kernel_rfl) (fun _ _ _ h => h) (Or.inl ⟨by rfl, ?_⟩) hHeld ?_
          rotate_left
          · intro w2 hSw
            go_simp
            all_goals rfl
          try simp only [Act.put, List.getElem_toArray, List.getElem_cons_zero, List.getElem_cons_succ, List.setIfInBounds_toArray, List.set_cons_zero, List.set_cons_succ]
          refine wpAnyH_done (by kernel_rfl) ?_ _
          go_wp2_with fail
          go_ret
          exact ⟨rfl, FD.k⟩
end Go.Proofs.Ytpfblbleendpiaa
