/-
  A translation through both tables, as the document's own call answers (Translate of the reference): the second table alone.
-/
import Derived.Test.YtpplclenokfpeaaDoorTrRoom
namespace Go.Proofs.YtpplclenokfpeaaDoor
open Go.RowKit
set_option maxRecDepth 100000 in
set_option maxHeartbeats 8000000 in
theorem rtr_second {S : StM} (hS : S.Ok) (at_ k level : Int) (v exec : Bool) (hk : k = 0 ∨ k = 1 ∨ k = 2) (hat : U at_) {w : World} {p q : Nat} {B : Nat → Int} (hm : RefAt w p q B) {A : AskM} (hA0 : Hid (askS S level v = A)) (hf0 : Hid (A.first = false)) (hs0 : Hid (A.second = true)) (hi0 : Hid (¬ 65536 ≤ at_)) :
    Calls Tryd.prog 13 #[.pointer (some ⟨p, 0, none⟩), .agg (rowOf 65 (stF S)), .int .u64 at_, .int .i64 k, .int .i64 level, .bool v, .bool exec] w fun e w' => ∃ t, e = .returned (.agg (fndA (trS B S at_ k level v exec).p (trS B S at_ k level v exec).e (trS B S at_ k level v exec).f (trS B S at_ k level v exec).ok t)) ∧ OwnT w.heap.size 10 w' t ∧ Kept w w' := by
  have hat0 : Hid (U at_) := hat
  have hk0 : Hid (k = 0 ∨ k = 1 ∨ k = 2) := hk
  have hm0 : Hid (RefAt w p q B) := hm
  clear hat hk
  have hlt := hm.lt
  have hs0 := st_new w S
  have n1 : (w.alloc (.cells (rowOf 65 (stF S)) 27)).heap.size = w.heap.size + 1 := Go.Deep.nblk_alloc _ _
  have h1 := alloc_last (w.alloc (.cells (rowOf 65 (stF S)) 27)) (fndA 0 entNone fltNone false (.slice none 0 0)) 43
  rw [n1] at h1
  have n2 : ((w.alloc (.cells (rowOf 65 (stF S)) 27)).alloc (.cells (fndA 0 entNone fltNone false (.slice none 0 0)) 43)).heap.size = w.heap.size + 2 := by rw [Go.Deep.nblk_alloc, n1]
  have k2 := ((Only.refl (fun _ => False) w).alloc (.cells (rowOf 65 (stF S)) 27)).alloc (.cells (fndA 0 entNone fltNone false (.slice none 0 0)) 43)
  have s2 := hs0.alloc (.cells (fndA 0 entNone fltNone false (.slice none 0 0)) 43)
  clear hs0 n1
  go_enter Tryd.func13, Tryd.ntmps13
  go_upto_region 1 with fail
  unfold fndA entNone fltNone at h1 n2 k2 s2
  generalize ((w.alloc (.cells (rowOf 65 (stF S)) 27)).alloc (.cells #[.int .u64 0, .bool false, .bool false, .int .i64 0, .int .i64 0, .int .i64 0, .int .i64 0, .int .i64 0, .int .i64 0, .int .i64 0, .int .u64 0, .int .u64 0, .int .u64 0, .bool false, .bool false, .slice none 0 0] 43)) = w2 at h1 n2 k2 s2 ⊢
  have h3 := alloc_last w2 (fndA 0 entNone ⟨0, at_, 0, v⟩ false (.slice none 0 0)) 43
  have kk := (Only.refl (fun _ => False) w2).alloc (.cells (fndA 0 entNone ⟨0, at_, 0, v⟩ false (.slice none 0 0)) 43)
  have n3 : (w2.alloc (.cells (fndA 0 entNone ⟨0, at_, 0, v⟩ false (.slice none 0 0)) 43)).heap.size = w.heap.size + 3 := by rw [Go.Deep.nblk_alloc, n2]
  go_upto_region 2 with (refine wpList_store_row rfl 43 _ _ rfl w2.heap.size (fndA 0 entNone ⟨0, at_, 0, v⟩ false (.slice none 0 0)) rfl rfl 43 _ (heap_alloc_last w2 _) (fnd_size _ _ _ _ _) rfl (fnd_ones _ _ _ _ rfl) ?_; rw [World.setRow_alloc_new])
  rw [n2] at h3
  have kA := k2.then kk
  have hr3 := kk.block h1 id
  have s3 : StAt (w2.alloc (.cells (fndA 0 entNone ⟨0, at_, 0, v⟩ false (.slice none 0 0)) 43)) w.heap.size S := s2.alloc _
  clear h1 k2 s2 kk n2
  unfold fndA entNone at h3 hr3 n3 kA s3
  generalize (w2.alloc (.cells #[.int .u64 0, .bool false, .bool false, .int .i64 0, .int .i64 0, .int .i64 0, .int .i64 0, .int .i64 0, .int .i64 0, .int .i64 0, .int .u64 0, .int .u64 at_, .int .u64 0, .bool v, .bool false, .slice none 0 0] 43)) = w3 at h3 hr3 n3 kA s3 ⊢
  generalize hF : w.heap.size = s0 at *
  go_upto_region 3 with (first | (refine wpList_load_is rfl 27 _ rfl rfl s3 _ Tryd.underlying27 rfl st_size ?_) | (go_at_call 14; refine (rask_any hS level v _).mono ?_; rintro e w4 ⟨rfl, k4⟩; rw [show askS S level v = A from hA0]; have h4 := alloc_last w4 (askA A) 46; have kk := (Only.refl (fun _ => False) w4).alloc (.cells (askA A) 46)) | (refine wpList_store_row rfl 46 _ _ rfl w4.heap.size (askA A) rfl rfl 46 _ (heap_alloc_last w4 _) (ask_size _ _ _ _ _ _ _ _) rfl (ask_ones _) ?_; rw [World.setRow_alloc_new]))
  have r0 : TR w (w4.alloc (.cells (askA A) 46)) (s0 + 1) (s0 + 2) w4.heap.size (w4.heap.size + 1) A 0 entNone ⟨0, at_, 0, v⟩ false (.slice none 0 0) 0 :=
    ⟨(kA.then k4).then kk, kk.block (k4.block hr3 id) id, kk.block (k4.block h3 id) id, h4, ownT_nil _ _ _, by omega, by omega, by have := k4.size; omega, by omega, by rw [Go.Deep.nblk_alloc]; omega⟩
  clear kA hr3 s3 h3 h4 kk k4 n3
  simp only [Act.put]
  generalize (w4.alloc (.cells (askA A) 46)) = w5 at r0 ⊢
  generalize w4.heap.size = ab at r0 ⊢
  obtain ⟨y0, y1, y2, y3, y4, y5, y6, y7⟩ := ask_cells r0.b
  go_upto_region 4 with (refine wpList_store_mid rfl 36 _ _ rfl (s0 + 2) 1 (entA ⟨true, v, 0, A.asid, A.vmid, 0, 255, 255, 0⟩).toArray rfl rfl (r0.there 1 9 (by omega)) (ent_size _) (ent_ones _) ?_)
  clear y0 y1 y2 y3 y4 y5 y6 y7
  refine TR.go (r0.ent ⟨true, v, 0, A.asid, A.vmid, 0, 255, 255, 0⟩) ?_
  clear r0 w5 w4 w3 w2
  intro w6 r1
  obtain ⟨y0, y1, y2, y3, y4, y5, y6, y7⟩ := ask_cells r1.b
  have hf : A.first = _ := hf0
  have hs := hs0
  unfold Hid at hs
  have hi := hi0
  unfold Hid at hi
  have a0 : 0 ≤ at_ := (id hat0 : U at_).1
  have a1 : at_ < 18446744073709551616 := (id hat0 : U at_).2
  have hk := (id hk0 : k = 0 ∨ k = 1 ∨ k = 2)
  have hm := (id hm0 : RefAt w p q B)
  have e1 : bits .and .u64 (at_ / 256) 255 = at_ / 256 % 256 := u_low (at_ / 256) 8 (by omega) 255 rfl
  have e2 : 0 ≤ at_ / 256 % 256 := by omega
  have e3 : at_ / 256 % 256 < 256 := by omega
  rw [hf] at y0
  rw [hs] at y1
  go_upto_region 11 with fail
  have v3 := r1.c3
  have u3 := r1.loose 3
  go_upto_region 12 with fail
  refine TR.go (r1.put (at2 := 0) (e2 := ⟨true, v, at_ / 256 % 256, A.asid, A.vmid, 0, 255, 255, 0⟩) (f2 := ⟨0, at_, 0, v⟩) (ok2 := false) 3 (.int .i64 (at_ / 256 % 256)) rfl) ?_
  clear v3 u3 r1
  intro w7 r2
  clear e1 y0 y1 y2 y3 y4 y5 y6 y7
  obtain ⟨y0, y1, y2, y3, y4, y5, y6, y7⟩ := ask_cells r2.b
  rw [hf] at y0
  go_upto_region 28 with fail
  clear y0 y1 y2 y3 y4 y5 y6 y7
  have pl0 : 0 ≤ at_ := a0
  have mz := hm.kept r2.k
  obtain ⟨gp0, gp1, gc⟩ := gst_bd hm.byte A (at_) k exec pl0
  go_upto_region 29 with (first | (refine wpList_load_list rfl 46 _ rfl ab rfl (askA A).toList _ r2.asks Tryd.underlying46 rfl (ask_size _ _ _ _ _ _ _ _) ?_) | (go_at_call 16; refine (rguest_any A (at_) k exec mz).mono ?_; rintro e wy ⟨tv, rfl, ot, ky⟩))
  obtain ⟨tq, tn, tc, rfl⟩ := ot.form
  have rq := r2.kept ky
  have ot := ot.lower r2.z4
  clear r2 ky mz
  generalize hG : gstS B A (at_) k exec = G at gp0 gp1 gc ⊢
  have v15 := rq.c15
  go_upto_region 30 with (at_builtin; refine wpList_appT rfl _ _ rfl rfl rq.o rfl ot (by omega) rq.z4 ?_; intro b2 n2 c2 w2 o2 g2; have hl2 := rq.app g2; have z15 : w2.cell? ⟨s0 + 2, 15, none⟩ = some (.slice none 0 0) := fb_cell hl2 15; have f15 := fb_loose hl2 15)
  refine TR.go (rq.lay g2 o2) ?_
  clear rq v15 hl2 z15 f15 g2 o2 ot
  intro wl rl
  rcases gc with hc | hc | hc
  · rw [hc]
    go_upto_region 36 with fail
    have v8 := rl.c8
    have u8 := rl.loose 8
    have v9 := rl.c9
    have u9 := rl.loose 9
    have v6 := rl.c6
    have u6 := rl.loose 6
    go_upto_region 37 with fail
    refine TR.go (((rl.put (at2 := 0) (e2 := ⟨true, v, at_ / 256 % 256, A.asid, A.vmid, 0, 255, G.b, 0⟩) (f2 := ⟨0, at_, 0, v⟩) (ok2 := false) 8 (.int .i64 G.b) rfl).put (at2 := 0) (e2 := ⟨true, v, at_ / 256 % 256, A.asid, A.vmid, 0, 255, G.b, (at_) / 256⟩) (f2 := ⟨0, at_, 0, v⟩) (ok2 := false) 9 (.int .i64 ((at_) / 256)) rfl).put (at2 := 0) (e2 := ⟨true, v, at_ / 256 % 256, A.asid, A.vmid, G.p / 256, 255, G.b, (at_) / 256⟩) (f2 := ⟨0, at_, 0, v⟩) (ok2 := false) 6 (.int .i64 (G.p / 256)) rfl) ?_
    clear v8 v9 v6 u8 u9 u6 rl
    intro w9 rm
    have v0 := rm.c0
    have u0 := rm.loose 0
    have v14 := rm.c14
    have u14 := rm.loose 14
    go_upto_region 38 with fail
    refine TR.go ((rm.put (at2 := G.p) (e2 := ⟨true, v, at_ / 256 % 256, A.asid, A.vmid, G.p / 256, 255, G.b, (at_) / 256⟩) (f2 := ⟨0, at_, 0, v⟩) (ok2 := false) 0 (.int .u64 G.p) rfl).put (at2 := G.p) (e2 := ⟨true, v, at_ / 256 % 256, A.asid, A.vmid, G.p / 256, 255, G.b, (at_) / 256⟩) (f2 := ⟨0, at_, 0, v⟩) (ok2 := true) 14 (.bool true) rfl) ?_
    clear v0 v14 u0 u14 rm
    intro w10 rn
    go_upto_region 39 with (refine wpList_store_mid rfl 38 _ _ rfl (s0 + 2) 10 (fltA fltNone).toArray rfl rfl (rn.there 10 4 (by omega)) (flt_size _) (flt_ones _) ?_)
    refine TR.go (rn.flt fltNone) ?_
    clear rn
    intro w11 ro
    go_wp2_with (first | (refine wpList_load_list rfl 43 _ rfl (s0 + 2) rfl (fndA _ _ _ _ _).toList _ ro.whole Tryd.underlying43 rfl (fnd_size _ _ _ _ _) ?_) | (refine wpList_store_row rfl 43 _ _ rfl (s0 + 1) (fndA _ _ _ _ _) rfl rfl 43 _ ro.r (fnd_size _ _ _ _ _) rfl (fnd_ones _ _ _ _ rfl) ?_))
    obtain ⟨hk9, hb9, ho9⟩ := ro.done
    have hX : trS B S at_ k level v exec = ⟨G.p, ⟨true, v, at_ / 256 % 256, A.asid, A.vmid, G.p / 256, 255, G.b, (at_) / 256⟩, fltNone, true⟩ := by
      unfold trS
      rw [show askS S level v = A from hA0, if_neg (by simp [hf, hs]), if_neg (show ¬ 65536 ≤ at_ by omega), if_pos hf]
      unfold endS
      rw [hG, if_neg (by omega), if_neg (by omega)]
    refine bodyPost_ret ?_ rfl ⟨(.slice b2 n2 c2), by rw [hX], ho9.more (by omega), hk9⟩
    exact results_cell_row rfl _ _ (s0 + 1) 43 _ (0, 0) _ rfl hb9 Tryd.underlying43 rfl (fnd_size _ _ _ _ _)
  · rw [hc]
    go_upto_region 32 with (go_at_call 36; refine (rbad_of k hk _).mono ?_; rintro r wx ⟨rfl, kx⟩; have rx := rl.kept kx; have v10 := rx.c10; have u10 := rx.loose 10)
    clear rl
    refine TR.go (rx.put (at2 := 0) (e2 := ⟨true, v, at_ / 256 % 256, A.asid, A.vmid, 0, 255, 255, 0⟩) (f2 := ⟨badC k, at_, 0, v⟩) (ok2 := false) 10 (.int .u64 (badC k)) rfl) ?_
    clear v10 u10 kx rx
    intro w12 rm
    go_upto_region 33 with fail
    go_upto_region 34 with (go_at_call 33; refine (rgf_of k hk _).mono ?_; rintro r wx ⟨rfl, kx⟩; have rx := rm.kept kx; have v10 := rx.c10; have u10 := rx.loose 10; have v12 := rx.c12; have u12 := rx.loose 12)
    clear rm
    refine TR.go ((rx.put (at2 := 0) (e2 := ⟨true, v, at_ / 256 % 256, A.asid, A.vmid, 0, 255, 255, 0⟩) (f2 := ⟨gfC k, at_, 0, v⟩) (ok2 := false) 10 (.int .u64 (gfC k)) rfl).put (at2 := 0) (e2 := ⟨true, v, at_ / 256 % 256, A.asid, A.vmid, 0, 255, 255, 0⟩) (f2 := ⟨gfC k, at_, (at_) / 4, v⟩) (ok2 := false) 12 (.int .u64 ((at_) / 4)) rfl) ?_
    clear v10 u10 v12 u12 kx rx
    intro w13 rn
    go_upto_region 35 with (refine wpList_store_mid rfl 36 _ _ rfl (s0 + 2) 1 (entA entNone).toArray rfl rfl (rn.there 1 9 (by omega)) (ent_size _) (ent_ones _) ?_)
    refine TR.go (rn.ent entNone) ?_
    clear rn
    intro w14 ro
    go_wp2_with (first | (refine wpList_load_list rfl 43 _ rfl (s0 + 2) rfl (fndA _ _ _ _ _).toList _ ro.whole Tryd.underlying43 rfl (fnd_size _ _ _ _ _) ?_) | (refine wpList_store_row rfl 43 _ _ rfl (s0 + 1) (fndA _ _ _ _ _) rfl rfl 43 _ ro.r (fnd_size _ _ _ _ _) rfl (fnd_ones _ _ _ _ rfl) ?_))
    obtain ⟨hk9, hb9, ho9⟩ := ro.done
    have hX : trS B S at_ k level v exec = ⟨0, entNone, ⟨gfC k, at_, (at_) / 4, v⟩, false⟩ := by
      unfold trS
      rw [show askS S level v = A from hA0, if_neg (by simp [hf, hs]), if_neg (show ¬ 65536 ≤ at_ by omega), if_pos hf]
      unfold endS
      rw [hG, if_pos hc]
    refine bodyPost_ret ?_ rfl ⟨(.slice b2 n2 c2), by rw [hX], ho9.more (by omega), hk9⟩
    exact results_cell_row rfl _ _ (s0 + 1) 43 _ (0, 0) _ rfl hb9 Tryd.underlying43 rfl (fnd_size _ _ _ _ _)
  · rw [hc]
    go_upto_region 32 with (go_at_call 36; refine (rbad_of k hk _).mono ?_; rintro r wx ⟨rfl, kx⟩; have rx := rl.kept kx; have v10 := rx.c10; have u10 := rx.loose 10)
    clear rl
    refine TR.go (rx.put (at2 := 0) (e2 := ⟨true, v, at_ / 256 % 256, A.asid, A.vmid, 0, 255, 255, 0⟩) (f2 := ⟨badC k, at_, 0, v⟩) (ok2 := false) 10 (.int .u64 (badC k)) rfl) ?_
    clear v10 u10 kx rx
    intro w15 rm
    go_upto_region 34 with fail
    have rn := rm
    clear rm
    go_upto_region 35 with (refine wpList_store_mid rfl 36 _ _ rfl (s0 + 2) 1 (entA entNone).toArray rfl rfl (rn.there 1 9 (by omega)) (ent_size _) (ent_ones _) ?_)
    refine TR.go (rn.ent entNone) ?_
    clear rn
    intro w16 ro
    go_wp2_with (first | (refine wpList_load_list rfl 43 _ rfl (s0 + 2) rfl (fndA _ _ _ _ _).toList _ ro.whole Tryd.underlying43 rfl (fnd_size _ _ _ _ _) ?_) | (refine wpList_store_row rfl 43 _ _ rfl (s0 + 1) (fndA _ _ _ _ _) rfl rfl 43 _ ro.r (fnd_size _ _ _ _ _) rfl (fnd_ones _ _ _ _ rfl) ?_))
    obtain ⟨hk9, hb9, ho9⟩ := ro.done
    have hX : trS B S at_ k level v exec = ⟨0, entNone, ⟨badC k, at_, 0, v⟩, false⟩ := by
      unfold trS
      rw [show askS S level v = A from hA0, if_neg (by simp [hf, hs]), if_neg (show ¬ 65536 ≤ at_ by omega), if_pos hf]
      unfold endS
      rw [hG, if_neg (by omega), if_pos (by omega)]
    refine bodyPost_ret ?_ rfl ⟨(.slice b2 n2 c2), by rw [hX], ho9.more (by omega), hk9⟩
    exact results_cell_row rfl _ _ (s0 + 1) 43 _ (0, 0) _ rfl hb9 Tryd.underlying43 rfl (fnd_size _ _ _ _ _)
end Go.Proofs.YtpplclenokfpeaaDoor
