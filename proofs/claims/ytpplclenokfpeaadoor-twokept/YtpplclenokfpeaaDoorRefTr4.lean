/-
  A translation through both tables, as the document's own call answers (Translate of the reference): through the first table.
-/
import Derived.Test.YtpplclenokfpeaaDoorTrRoom
namespace Go.Proofs.YtpplclenokfpeaaDoor
open Go.RowKit
set_option maxRecDepth 100000 in
set_option maxHeartbeats 8000000 in
theorem rtr_first_on {S : StM} (hS : S.Ok) (at_ k level : Int) (v exec : Bool) (hk : k = 0 ∨ k = 1 ∨ k = 2) (hat : U at_) {w : World} {p q : Nat} {B : Nat → Int} (hm : RefAt w p q B) {A : AskM} (hA0 : Hid (askS S level v = A)) (hf0 : Hid (A.first = true)) (hs0 : Hid ((fstS B A at_ k).ok = true)) (hi0 : Hid (¬ 65536 ≤ at_)) (hy0 : Hid (mayE ((fstS B A at_ k).e % 256) (knd k exec) (level == 0) A.sum A.mxr = true)) :
    Calls Tryd.prog 13 #[.pointer (some ⟨p, 0, none⟩), .agg (rowOf 65 (stF S)), .int .u64 at_, .int .i64 k, .int .i64 level, .bool v, .bool exec] w fun e w' => ∃ t, e = .returned (.agg (fndA (trS B S at_ k level v exec).p (trS B S at_ k level v exec).e (trS B S at_ k level v exec).f (trS B S at_ k level v exec).ok t)) ∧ OwnT w.heap.size 10 w' t ∧ Kept w w' := by
  have hat0 : Hid (U at_) := hat
  have hk0 : Hid (k = 0 ∨ k = 1 ∨ k = 2) := hk
  have hm0 : Hid (RefAt w p q B) := hm
  clear hat hk
  have hlt := hm.lt
  have hs0 := st_new w S
  have n1 : (w.alloc (.cells (rowOf 65 (stF S)) 27)).heap.size = w.heap.size + 1 := Go.Deep.nblk_alloc _ _
  have h1 := alloc_last (w.alloc (.cells (rowOf 65 (stF S)) 27)) (fndA 0 entNone fltNone false (.slice none 0 0)) 43
  rw [n1] at h1
  have n2 : ((w.alloc (.cells (rowOf 65 (stF S)) 27)).alloc (.cells (fndA 0 entNone fltNone false (.slice none 0 0)) 43)).heap.size = w.heap.size + 2 := by rw [Go.Deep.nblk_alloc, n1]
  have k2 := ((Only.refl (fun _ => False) w).alloc (.cells (rowOf 65 (stF S)) 27)).alloc (.cells (fndA 0 entNone fltNone false (.slice none 0 0)) 43)
  have s2 := hs0.alloc (.cells (fndA 0 entNone fltNone false (.slice none 0 0)) 43)
  clear hs0 n1
  go_enter Tryd.func13, Tryd.ntmps13
  go_upto_region 1 with fail
  unfold fndA entNone fltNone at h1 n2 k2 s2
  generalize ((w.alloc (.cells (rowOf 65 (stF S)) 27)).alloc (.cells #[.int .u64 0, .bool false, .bool false, .int .i64 0, .int .i64 0, .int .i64 0, .int .i64 0, .int .i64 0, .int .i64 0, .int .i64 0, .int .u64 0, .int .u64 0, .int .u64 0, .bool false, .bool false, .slice none 0 0] 43)) = w2 at h1 n2 k2 s2 ⊢
  have h3 := alloc_last w2 (fndA 0 entNone ⟨0, at_, 0, v⟩ false (.slice none 0 0)) 43
  have kk := (Only.refl (fun _ => False) w2).alloc (.cells (fndA 0 entNone ⟨0, at_, 0, v⟩ false (.slice none 0 0)) 43)
  have n3 : (w2.alloc (.cells (fndA 0 entNone ⟨0, at_, 0, v⟩ false (.slice none 0 0)) 43)).heap.size = w.heap.size + 3 := by rw [Go.Deep.nblk_alloc, n2]
  go_upto_region 2 with (refine wpList_store_row rfl 43 _ _ rfl w2.heap.size (fndA 0 entNone ⟨0, at_, 0, v⟩ false (.slice none 0 0)) rfl rfl 43 _ (heap_alloc_last w2 _) (fnd_size _ _ _ _ _) rfl (fnd_ones _ _ _ _ rfl) ?_; rw [World.setRow_alloc_new])
  rw [n2] at h3
  have kA := k2.then kk
  have hr3 := kk.block h1 id
  have s3 : StAt (w2.alloc (.cells (fndA 0 entNone ⟨0, at_, 0, v⟩ false (.slice none 0 0)) 43)) w.heap.size S := s2.alloc _
  clear h1 k2 s2 kk n2
  unfold fndA entNone at h3 hr3 n3 kA s3
  generalize (w2.alloc (.cells #[.int .u64 0, .bool false, .bool false, .int .i64 0, .int .i64 0, .int .i64 0, .int .i64 0, .int .i64 0, .int .i64 0, .int .i64 0, .int .u64 0, .int .u64 at_, .int .u64 0, .bool v, .bool false, .slice none 0 0] 43)) = w3 at h3 hr3 n3 kA s3 ⊢
  generalize hF : w.heap.size = s0 at *
  go_upto_region 3 with (first | (refine wpList_load_is rfl 27 _ rfl rfl s3 _ Tryd.underlying27 rfl st_size ?_) | (go_at_call 14; refine (rask_any hS level v _).mono ?_; rintro e w4 ⟨rfl, k4⟩; rw [show askS S level v = A from hA0]; have h4 := alloc_last w4 (askA A) 46; have kk := (Only.refl (fun _ => False) w4).alloc (.cells (askA A) 46)) | (refine wpList_store_row rfl 46 _ _ rfl w4.heap.size (askA A) rfl rfl 46 _ (heap_alloc_last w4 _) (ask_size _ _ _ _ _ _ _ _) rfl (ask_ones _) ?_; rw [World.setRow_alloc_new]))
  have r0 : TR w (w4.alloc (.cells (askA A) 46)) (s0 + 1) (s0 + 2) w4.heap.size (w4.heap.size + 1) A 0 entNone ⟨0, at_, 0, v⟩ false (.slice none 0 0) 0 :=
    ⟨(kA.then k4).then kk, kk.block (k4.block hr3 id) id, kk.block (k4.block h3 id) id, h4, ownT_nil _ _ _, by omega, by omega, by have := k4.size; omega, by omega, by rw [Go.Deep.nblk_alloc]; omega⟩
  clear kA hr3 s3 h3 h4 kk k4 n3
  simp only [Act.put]
  generalize (w4.alloc (.cells (askA A) 46)) = w5 at r0 ⊢
  generalize w4.heap.size = ab at r0 ⊢
  obtain ⟨y0, y1, y2, y3, y4, y5, y6, y7⟩ := ask_cells r0.b
  go_upto_region 4 with (refine wpList_store_mid rfl 36 _ _ rfl (s0 + 2) 1 (entA ⟨true, v, 0, A.asid, A.vmid, 0, 255, 255, 0⟩).toArray rfl rfl (r0.there 1 9 (by omega)) (ent_size _) (ent_ones _) ?_)
  clear y0 y1 y2 y3 y4 y5 y6 y7
  refine TR.go (r0.ent ⟨true, v, 0, A.asid, A.vmid, 0, 255, 255, 0⟩) ?_
  clear r0 w5 w4 w3 w2
  intro w6 r1
  obtain ⟨y0, y1, y2, y3, y4, y5, y6, y7⟩ := ask_cells r1.b
  have hf : A.first = _ := hf0
  have hs := hs0
  unfold Hid at hs
  have hi := hi0
  unfold Hid at hi
  have a0 : 0 ≤ at_ := (id hat0 : U at_).1
  have a1 : at_ < 18446744073709551616 := (id hat0 : U at_).2
  have hk := (id hk0 : k = 0 ∨ k = 1 ∨ k = 2)
  have hm := (id hm0 : RefAt w p q B)
  have e1 : bits .and .u64 (at_ / 256) 255 = at_ / 256 % 256 := u_low (at_ / 256) 8 (by omega) 255 rfl
  have e2 : 0 ≤ at_ / 256 % 256 := by omega
  have e3 : at_ / 256 % 256 < 256 := by omega
  obtain ⟨⟨rt0, rt1⟩, _⟩ := ask_bd S level v
  rw [show askS S level v = A from hA0] at rt0 rt1
  rw [hf] at y0
  go_upto_region 11 with fail
  have v3 := r1.c3
  have u3 := r1.loose 3
  go_upto_region 12 with fail
  refine TR.go (r1.put (at2 := 0) (e2 := ⟨true, v, at_ / 256 % 256, A.asid, A.vmid, 0, 255, 255, 0⟩) (f2 := ⟨0, at_, 0, v⟩) (ok2 := false) 3 (.int .i64 (at_ / 256 % 256)) rfl) ?_
  clear v3 u3 r1
  intro w7 r2
  clear e1 y0 y1 y2 y3 y4 y5 y6 y7
  obtain ⟨y0, y1, y2, y3, y4, y5, y6, y7⟩ := ask_cells r2.b
  rw [hf] at y0
  go_upto_region 20 with fail
  clear y0 y1 y2 y3 y4 y5 y6 y7
  have mz := hm.kept r2.k
  have l2 := r2.l
  go_upto_region 21 with (first | (refine wpList_load_list rfl 46 _ rfl ab rfl (askA A).toList _ r2.asks Tryd.underlying46 rfl (ask_size _ _ _ _ _ _ _ _) ?_) | (go_at_call 34; refine (rfirst_any A at_ k hk a0 rt0 rt1 0 at_ ⟨true, v, at_ / 256 % 256, A.asid, A.vmid, 0, 255, 255, 0⟩ v false mz (by omega) (by omega) l2).mono ?_; rintro e wy ⟨t6, rfl, hl6, o6, g6⟩))
  have r3 := r2.first g6 hl6 o6
  clear r2 l2 mz g6 hl6
  obtain ⟨xq, xn, xc, rfl⟩ := o6.form
  clear o6
  obtain ⟨⟨xf0, xf1⟩, xz⟩ := fst_bd B A at_ k
  have hy := hy0
  unfold Hid at hy
  generalize hX1 : fstS B A at_ k = X at hy hs xf0 xf1 xz r3 ⊢
  obtain ⟨xc0, xp0⟩ := xz hs
  rw [xc0, xp0] at r3
  clear xz
  obtain ⟨y0, y1, y2, y3, y4, y5, y6, y7⟩ := ask_cells r3.b
  have b1 : bits .and .u64 X.e 255 = X.e % 256 := u_low X.e 8 (by omega) 255 rfl
  have b2 : 0 ≤ X.e % 256 := by omega
  have b3 : X.e % 256 < 256 := by omega
  go_upto_region 26 with (go_at_call 35; refine (rmayx_of _ _ _ _ _ _ _).mono ?_; rintro r wy ⟨rfl, hwy⟩; rw [hwy, hy]; clear hwy wy)
  clear y0 y1 y2 y3 y4 y5 y6 y7
  have v7 := r3.c7
  have u7 := r3.loose 7
  go_upto_region 27 with fail
  refine TR.go (r3.put (at2 := 0) (e2 := ⟨true, v, at_ / 256 % 256, A.asid, A.vmid, 0, X.e % 256, 255, 0⟩) (f2 := ⟨0, at_, 0, v⟩) (ok2 := false) 7 (.int .i64 (X.e % 256)) rfl) ?_
  clear v7 u7 r3
  intro w8 r4
  have p1 : bits .and .u64 at_ 255 = at_ % 256 := u_low at_ 8 (by omega) 255 rfl
  have p2 : 0 ≤ at_ % 256 := by omega
  have p3 : at_ % 256 < 256 := by omega
  have p4 := or_8 (a := X.frame) (b := at_ % 256) xf0 (by omega) p2 p3
  go_upto_region 28 with fail
  clear p1 p4 b1
  have pl0 : 0 ≤ X.frame * 256 + at_ % 256 := by omega
  have pl1 : X.frame * 256 + at_ % 256 < 65536 := by omega
  generalize hpl : X.frame * 256 + at_ % 256 = pl at pl0 pl1 ⊢
  have mz := hm.kept r4.k
  obtain ⟨gp0, gp1, gc⟩ := gst_bd hm.byte A (pl) k exec pl0
  go_upto_region 29 with (first | (refine wpList_load_list rfl 46 _ rfl ab rfl (askA A).toList _ r4.asks Tryd.underlying46 rfl (ask_size _ _ _ _ _ _ _ _) ?_) | (go_at_call 16; refine (rguest_any A (pl) k exec mz).mono ?_; rintro e wy ⟨tv, rfl, ot, ky⟩))
  obtain ⟨tq, tn, tc, rfl⟩ := ot.form
  have rq := r4.kept ky
  have ot := ot.lower r4.z4
  clear r4 ky mz
  generalize hG : gstS B A (pl) k exec = G at gp0 gp1 gc ⊢
  have v15 := rq.c15
  go_upto_region 30 with (at_builtin; refine wpList_appT rfl _ _ rfl rfl rq.o rfl ot (by omega) rq.z4 ?_; intro b2 n2 c2 w2 o2 g2; have hl2 := rq.app g2; have z15 : w2.cell? ⟨s0 + 2, 15, none⟩ = some (.slice xq xn xc) := fb_cell hl2 15; have f15 := fb_loose hl2 15)
  refine TR.go (rq.lay g2 o2) ?_
  clear rq v15 hl2 z15 f15 g2 o2 ot
  intro wl rl
  rcases gc with hc | hc | hc
  · rw [hc]
    go_upto_region 36 with fail
    have v8 := rl.c8
    have u8 := rl.loose 8
    have v9 := rl.c9
    have u9 := rl.loose 9
    have v6 := rl.c6
    have u6 := rl.loose 6
    go_upto_region 37 with fail
    refine TR.go (((rl.put (at2 := 0) (e2 := ⟨true, v, at_ / 256 % 256, A.asid, A.vmid, 0, X.e % 256, G.b, 0⟩) (f2 := ⟨0, at_, 0, v⟩) (ok2 := false) 8 (.int .i64 G.b) rfl).put (at2 := 0) (e2 := ⟨true, v, at_ / 256 % 256, A.asid, A.vmid, 0, X.e % 256, G.b, (pl) / 256⟩) (f2 := ⟨0, at_, 0, v⟩) (ok2 := false) 9 (.int .i64 ((pl) / 256)) rfl).put (at2 := 0) (e2 := ⟨true, v, at_ / 256 % 256, A.asid, A.vmid, G.p / 256, X.e % 256, G.b, (pl) / 256⟩) (f2 := ⟨0, at_, 0, v⟩) (ok2 := false) 6 (.int .i64 (G.p / 256)) rfl) ?_
    clear v8 v9 v6 u8 u9 u6 rl
    intro w10 rm
    have v0 := rm.c0
    have u0 := rm.loose 0
    have v14 := rm.c14
    have u14 := rm.loose 14
    go_upto_region 38 with fail
    refine TR.go ((rm.put (at2 := G.p) (e2 := ⟨true, v, at_ / 256 % 256, A.asid, A.vmid, G.p / 256, X.e % 256, G.b, (pl) / 256⟩) (f2 := ⟨0, at_, 0, v⟩) (ok2 := false) 0 (.int .u64 G.p) rfl).put (at2 := G.p) (e2 := ⟨true, v, at_ / 256 % 256, A.asid, A.vmid, G.p / 256, X.e % 256, G.b, (pl) / 256⟩) (f2 := ⟨0, at_, 0, v⟩) (ok2 := true) 14 (.bool true) rfl) ?_
    clear v0 v14 u0 u14 rm
    intro w11 rn
    go_upto_region 39 with (refine wpList_store_mid rfl 38 _ _ rfl (s0 + 2) 10 (fltA fltNone).toArray rfl rfl (rn.there 10 4 (by omega)) (flt_size _) (flt_ones _) ?_)
    refine TR.go (rn.flt fltNone) ?_
    clear rn
    intro w12 ro
    go_wp2_with (first | (refine wpList_load_list rfl 43 _ rfl (s0 + 2) rfl (fndA _ _ _ _ _).toList _ ro.whole Tryd.underlying43 rfl (fnd_size _ _ _ _ _) ?_) | (refine wpList_store_row rfl 43 _ _ rfl (s0 + 1) (fndA _ _ _ _ _) rfl rfl 43 _ ro.r (fnd_size _ _ _ _ _) rfl (fnd_ones _ _ _ _ rfl) ?_))
    obtain ⟨hk9, hb9, ho9⟩ := ro.done
    have hX : trS B S at_ k level v exec = ⟨G.p, ⟨true, v, at_ / 256 % 256, A.asid, A.vmid, G.p / 256, X.e % 256, G.b, (pl) / 256⟩, fltNone, true⟩ := by
      unfold trS
      rw [show askS S level v = A from hA0, if_neg (by simp [hf]), if_neg (show ¬ 65536 ≤ at_ by omega), if_neg (by simp [hf]), hX1, if_neg (by simp [hs]), if_neg (by simp [hy]), hpl]
      unfold endS
      rw [hG, if_neg (by omega), if_neg (by omega)]
    refine bodyPost_ret ?_ rfl ⟨(.slice b2 n2 c2), by rw [hX], ho9.more (by omega), hk9⟩
    exact results_cell_row rfl _ _ (s0 + 1) 43 _ (0, 0) _ rfl hb9 Tryd.underlying43 rfl (fnd_size _ _ _ _ _)
  · rw [hc]
    go_upto_region 32 with (go_at_call 36; refine (rbad_of k hk _).mono ?_; rintro r wx ⟨rfl, kx⟩; have rx := rl.kept kx; have v10 := rx.c10; have u10 := rx.loose 10)
    clear rl
    refine TR.go (rx.put (at2 := 0) (e2 := ⟨true, v, at_ / 256 % 256, A.asid, A.vmid, 0, X.e % 256, 255, 0⟩) (f2 := ⟨badC k, at_, 0, v⟩) (ok2 := false) 10 (.int .u64 (badC k)) rfl) ?_
    clear v10 u10 kx rx
    intro w13 rm
    go_upto_region 33 with fail
    go_upto_region 34 with (go_at_call 33; refine (rgf_of k hk _).mono ?_; rintro r wx ⟨rfl, kx⟩; have rx := rm.kept kx; have v10 := rx.c10; have u10 := rx.loose 10; have v12 := rx.c12; have u12 := rx.loose 12)
    clear rm
    refine TR.go ((rx.put (at2 := 0) (e2 := ⟨true, v, at_ / 256 % 256, A.asid, A.vmid, 0, X.e % 256, 255, 0⟩) (f2 := ⟨gfC k, at_, 0, v⟩) (ok2 := false) 10 (.int .u64 (gfC k)) rfl).put (at2 := 0) (e2 := ⟨true, v, at_ / 256 % 256, A.asid, A.vmid, 0, X.e % 256, 255, 0⟩) (f2 := ⟨gfC k, at_, (pl) / 4, v⟩) (ok2 := false) 12 (.int .u64 ((pl) / 4)) rfl) ?_
    clear v10 u10 v12 u12 kx rx
    intro w14 rn
    go_upto_region 35 with (refine wpList_store_mid rfl 36 _ _ rfl (s0 + 2) 1 (entA entNone).toArray rfl rfl (rn.there 1 9 (by omega)) (ent_size _) (ent_ones _) ?_)
    refine TR.go (rn.ent entNone) ?_
    clear rn
    intro w15 ro
    go_wp2_with (first | (refine wpList_load_list rfl 43 _ rfl (s0 + 2) rfl (fndA _ _ _ _ _).toList _ ro.whole Tryd.underlying43 rfl (fnd_size _ _ _ _ _) ?_) | (refine wpList_store_row rfl 43 _ _ rfl (s0 + 1) (fndA _ _ _ _ _) rfl rfl 43 _ ro.r (fnd_size _ _ _ _ _) rfl (fnd_ones _ _ _ _ rfl) ?_))
    obtain ⟨hk9, hb9, ho9⟩ := ro.done
    have hX : trS B S at_ k level v exec = ⟨0, entNone, ⟨gfC k, at_, (pl) / 4, v⟩, false⟩ := by
      unfold trS
      rw [show askS S level v = A from hA0, if_neg (by simp [hf]), if_neg (show ¬ 65536 ≤ at_ by omega), if_neg (by simp [hf]), hX1, if_neg (by simp [hs]), if_neg (by simp [hy]), hpl]
      unfold endS
      rw [hG, if_pos hc]
    refine bodyPost_ret ?_ rfl ⟨(.slice b2 n2 c2), by rw [hX], ho9.more (by omega), hk9⟩
    exact results_cell_row rfl _ _ (s0 + 1) 43 _ (0, 0) _ rfl hb9 Tryd.underlying43 rfl (fnd_size _ _ _ _ _)
  · rw [hc]
    go_upto_region 32 with (go_at_call 36; refine (rbad_of k hk _).mono ?_; rintro r wx ⟨rfl, kx⟩; have rx := rl.kept kx; have v10 := rx.c10; have u10 := rx.loose 10)
    clear rl
    refine TR.go (rx.put (at2 := 0) (e2 := ⟨true, v, at_ / 256 % 256, A.asid, A.vmid, 0, X.e % 256, 255, 0⟩) (f2 := ⟨badC k, at_, 0, v⟩) (ok2 := false) 10 (.int .u64 (badC k)) rfl) ?_
    clear v10 u10 kx rx
    intro w16 rm
    go_upto_region 34 with fail
    have rn := rm
    clear rm
    go_upto_region 35 with (refine wpList_store_mid rfl 36 _ _ rfl (s0 + 2) 1 (entA entNone).toArray rfl rfl (rn.there 1 9 (by omega)) (ent_size _) (ent_ones _) ?_)
    refine TR.go (rn.ent entNone) ?_
    clear rn
    intro w17 ro
    go_wp2_with (first | (refine wpList_load_list rfl 43 _ rfl (s0 + 2) rfl (fndA _ _ _ _ _).toList _ ro.whole Tryd.underlying43 rfl (fnd_size _ _ _ _ _) ?_) | (refine wpList_store_row rfl 43 _ _ rfl (s0 + 1) (fndA _ _ _ _ _) rfl rfl 43 _ ro.r (fnd_size _ _ _ _ _) rfl (fnd_ones _ _ _ _ rfl) ?_))
    obtain ⟨hk9, hb9, ho9⟩ := ro.done
    have hX : trS B S at_ k level v exec = ⟨0, entNone, ⟨badC k, at_, 0, v⟩, false⟩ := by
      unfold trS
      rw [show askS S level v = A from hA0, if_neg (by simp [hf]), if_neg (show ¬ 65536 ≤ at_ by omega), if_neg (by simp [hf]), hX1, if_neg (by simp [hs]), if_neg (by simp [hy]), hpl]
      unfold endS
      rw [hG, if_neg (by omega), if_pos (by omega)]
    refine bodyPost_ret ?_ rfl ⟨(.slice b2 n2 c2), by rw [hX], ho9.more (by omega), hk9⟩
    exact results_cell_row rfl _ _ (s0 + 1) 43 _ (0, 0) _ rfl hb9 Tryd.underlying43 rfl (fnd_size _ _ _ _ _)
end Go.Proofs.YtpplclenokfpeaaDoor
