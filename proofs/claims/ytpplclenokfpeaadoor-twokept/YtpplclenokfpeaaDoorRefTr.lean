/-
  A translation through both tables, as the document's own call answers (Translate of the reference): nothing translates, or a place beyond the space.
-/
import Derived.Test.YtpplclenokfpeaaDoorTrRoom
namespace Go.Proofs.YtpplclenokfpeaaDoor
open Go.RowKit
set_option maxRecDepth 100000 in
set_option maxHeartbeats 8000000 in
theorem rtr_none_in {S : StM} (hS : S.Ok) (at_ k level : Int) (v exec : Bool) (_hk : k = 0 ∨ k = 1 ∨ k = 2) (hat : U at_) {w : World} {p q : Nat} {B : Nat → Int} (hm : RefAt w p q B) {A : AskM} (hA0 : Hid (askS S level v = A)) (hf0 : Hid (A.first = false)) (hs0 : Hid (A.second = false)) (hi0 : Hid (at_ < 65536)) :
    Calls Tryd.prog 13 #[.pointer (some ⟨p, 0, none⟩), .agg (rowOf 65 (stF S)), .int .u64 at_, .int .i64 k, .int .i64 level, .bool v, .bool exec] w fun e w' => ∃ t, e = .returned (.agg (fndA (trS B S at_ k level v exec).p (trS B S at_ k level v exec).e (trS B S at_ k level v exec).f (trS B S at_ k level v exec).ok t)) ∧ OwnT w.heap.size 10 w' t ∧ Kept w w' := by
  have hat0 : Hid (U at_) := hat
  clear hat
  have hlt := hm.lt
  have hs0 := st_new w S
  have n1 : (w.alloc (.cells (rowOf 65 (stF S)) 27)).heap.size = w.heap.size + 1 := Go.Deep.nblk_alloc _ _
  have h1 := alloc_last (w.alloc (.cells (rowOf 65 (stF S)) 27)) (fndA 0 entNone fltNone false (.slice none 0 0)) 43
  rw [n1] at h1
  have n2 : ((w.alloc (.cells (rowOf 65 (stF S)) 27)).alloc (.cells (fndA 0 entNone fltNone false (.slice none 0 0)) 43)).heap.size = w.heap.size + 2 := by rw [Go.Deep.nblk_alloc, n1]
  have k2 := ((Only.refl (fun _ => False) w).alloc (.cells (rowOf 65 (stF S)) 27)).alloc (.cells (fndA 0 entNone fltNone false (.slice none 0 0)) 43)
  have s2 := hs0.alloc (.cells (fndA 0 entNone fltNone false (.slice none 0 0)) 43)
  clear hs0 n1
  go_enter Tryd.func13, Tryd.ntmps13
  go_upto_region 1 with fail
  unfold fndA entNone fltNone at h1 n2 k2 s2
  generalize ((w.alloc (.cells (rowOf 65 (stF S)) 27)).alloc (.cells #[.int .u64 0, .bool false, .bool false, .int .i64 0, .int .i64 0, .int .i64 0, .int .i64 0, .int .i64 0, .int .i64 0, .int .i64 0, .int .u64 0, .int .u64 0, .int .u64 0, .bool false, .bool false, .slice none 0 0] 43)) = w2 at h1 n2 k2 s2 ⊢
  have h3 := alloc_last w2 (fndA 0 entNone ⟨0, at_, 0, v⟩ false (.slice none 0 0)) 43
  have kk := (Only.refl (fun _ => False) w2).alloc (.cells (fndA 0 entNone ⟨0, at_, 0, v⟩ false (.slice none 0 0)) 43)
  have n3 : (w2.alloc (.cells (fndA 0 entNone ⟨0, at_, 0, v⟩ false (.slice none 0 0)) 43)).heap.size = w.heap.size + 3 := by rw [Go.Deep.nblk_alloc, n2]
  go_upto_region 2 with (refine wpList_store_row rfl 43 _ _ rfl w2.heap.size (fndA 0 entNone ⟨0, at_, 0, v⟩ false (.slice none 0 0)) rfl rfl 43 _ (heap_alloc_last w2 _) (fnd_size _ _ _ _ _) rfl (fnd_ones _ _ _ _ rfl) ?_; rw [World.setRow_alloc_new])
  rw [n2] at h3
  have kA := k2.then kk
  have hr3 := kk.block h1 id
  have s3 : StAt (w2.alloc (.cells (fndA 0 entNone ⟨0, at_, 0, v⟩ false (.slice none 0 0)) 43)) w.heap.size S := s2.alloc _
  clear h1 k2 s2 kk n2
  unfold fndA entNone at h3 hr3 n3 kA s3
  generalize (w2.alloc (.cells #[.int .u64 0, .bool false, .bool false, .int .i64 0, .int .i64 0, .int .i64 0, .int .i64 0, .int .i64 0, .int .i64 0, .int .i64 0, .int .u64 0, .int .u64 at_, .int .u64 0, .bool v, .bool false, .slice none 0 0] 43)) = w3 at h3 hr3 n3 kA s3 ⊢
  generalize hF : w.heap.size = s0 at *
  go_upto_region 3 with (first | (refine wpList_load_is rfl 27 _ rfl rfl s3 _ Tryd.underlying27 rfl st_size ?_) | (go_at_call 14; refine (rask_any hS level v _).mono ?_; rintro e w4 ⟨rfl, k4⟩; rw [show askS S level v = A from hA0]; have h4 := alloc_last w4 (askA A) 46; have kk := (Only.refl (fun _ => False) w4).alloc (.cells (askA A) 46)) | (refine wpList_store_row rfl 46 _ _ rfl w4.heap.size (askA A) rfl rfl 46 _ (heap_alloc_last w4 _) (ask_size _ _ _ _ _ _ _ _) rfl (ask_ones _) ?_; rw [World.setRow_alloc_new]))
  have r0 : TR w (w4.alloc (.cells (askA A) 46)) (s0 + 1) (s0 + 2) w4.heap.size (w4.heap.size + 1) A 0 entNone ⟨0, at_, 0, v⟩ false (.slice none 0 0) 0 :=
    ⟨(kA.then k4).then kk, kk.block (k4.block hr3 id) id, kk.block (k4.block h3 id) id, h4, ownT_nil _ _ _, by omega, by omega, by have := k4.size; omega, by omega, by rw [Go.Deep.nblk_alloc]; omega⟩
  clear kA hr3 s3 h3 h4 kk k4 n3
  simp only [Act.put]
  generalize (w4.alloc (.cells (askA A) 46)) = w5 at r0 ⊢
  generalize w4.heap.size = ab at r0 ⊢
  obtain ⟨y0, y1, y2, y3, y4, y5, y6, y7⟩ := ask_cells r0.b
  go_upto_region 4 with (refine wpList_store_mid rfl 36 _ _ rfl (s0 + 2) 1 (entA ⟨true, v, 0, A.asid, A.vmid, 0, 255, 255, 0⟩).toArray rfl rfl (r0.there 1 9 (by omega)) (ent_size _) (ent_ones _) ?_)
  clear y0 y1 y2 y3 y4 y5 y6 y7
  refine TR.go (r0.ent ⟨true, v, 0, A.asid, A.vmid, 0, 255, 255, 0⟩) ?_
  clear r0 w5 w4 w3 w2
  intro w6 r1
  obtain ⟨y0, y1, y2, y3, y4, y5, y6, y7⟩ := ask_cells r1.b
  have hf : A.first = _ := hf0
  have hs := hs0
  unfold Hid at hs
  have hi := hi0
  unfold Hid at hi
  have a0 : 0 ≤ at_ := (id hat0 : U at_).1
  have a1 : at_ < 18446744073709551616 := (id hat0 : U at_).2
  rw [hf] at y0
  rw [hs] at y1
  go_upto_region 6 with fail
  clear y0 y1 y2 y3 y4 y5 y6 y7
  have v3 := r1.c3
  have u3 := r1.loose 3
  go_upto_region 7 with fail
  refine TR.go (r1.put (at2 := 0) (e2 := ⟨true, v, at_ / 256, A.asid, A.vmid, 0, 255, 255, 0⟩) (f2 := ⟨0, at_, 0, v⟩) (ok2 := false) 3 (.int .i64 (at_ / 256)) rfl) ?_
  clear v3 u3 r1
  intro w7 r2
  have v0 := r2.c0
  have u0 := r2.loose 0
  have v14 := r2.c14
  have u14 := r2.loose 14
  go_upto_region 8 with fail
  refine TR.go ((r2.put (at2 := at_) (e2 := ⟨true, v, at_ / 256, A.asid, A.vmid, 0, 255, 255, 0⟩) (f2 := ⟨0, at_, 0, v⟩) (ok2 := false) 0 (.int .u64 at_) rfl).put (at2 := at_) (e2 := ⟨true, v, at_ / 256, A.asid, A.vmid, 0, 255, 255, 0⟩) (f2 := ⟨0, at_, 0, v⟩) (ok2 := true) 14 (.bool true) rfl) ?_
  clear v0 v14 u0 u14 r2
  intro w8 r3
  have v6 := r3.c6
  have u6 := r3.loose 6
  have v9 := r3.c9
  have u9 := r3.loose 9
  have v3 := r3.c3
  go_upto_region 9 with fail
  refine TR.go ((r3.put (at2 := at_) (e2 := ⟨true, v, at_ / 256, A.asid, A.vmid, at_ / 256, 255, 255, 0⟩) (f2 := ⟨0, at_, 0, v⟩) (ok2 := true) 6 (.int .i64 (at_ / 256)) rfl).put (at2 := at_) (e2 := ⟨true, v, at_ / 256, A.asid, A.vmid, at_ / 256, 255, 255, at_ / 256⟩) (f2 := ⟨0, at_, 0, v⟩) (ok2 := true) 9 (.int .i64 (at_ / 256)) rfl) ?_
  clear v6 v9 u6 u9 v3 r3
  intro w9 r4
  go_upto_region 10 with (refine wpList_store_mid rfl 38 _ _ rfl (s0 + 2) 10 (fltA fltNone).toArray rfl rfl (r4.there 10 4 (by omega)) (flt_size _) (flt_ones _) ?_)
  refine TR.go (r4.flt fltNone) ?_
  clear r4
  intro w10 r5
  go_wp2_with (first | (refine wpList_load_list rfl 43 _ rfl (s0 + 2) rfl (fndA _ _ _ _ _).toList _ r5.whole Tryd.underlying43 rfl (fnd_size _ _ _ _ _) ?_) | (refine wpList_store_row rfl 43 _ _ rfl (s0 + 1) (fndA _ _ _ _ _) rfl rfl 43 _ r5.r (fnd_size _ _ _ _ _) rfl (fnd_ones _ _ _ _ rfl) ?_))
  obtain ⟨hk9, hb9, ho9⟩ := r5.done
  have hX : trS B S at_ k level v exec = ⟨at_, ⟨true, v, at_ / 256, A.asid, A.vmid, at_ / 256, 255, 255, at_ / 256⟩, fltNone, true⟩ := by
    unfold trS
    rw [show askS S level v = A from hA0, if_pos ⟨hf, hs⟩, if_pos hi]
  refine bodyPost_ret ?_ rfl ⟨(.slice none 0 0), by rw [hX], ho9.more (by omega), hk9⟩
  exact results_cell_row rfl _ _ (s0 + 1) 43 _ (0, 0) _ rfl hb9 Tryd.underlying43 rfl (fnd_size _ _ _ _ _)
set_option maxRecDepth 100000 in
set_option maxHeartbeats 8000000 in
theorem rtr_none_out {S : StM} (hS : S.Ok) (at_ k level : Int) (v exec : Bool) (_hk : k = 0 ∨ k = 1 ∨ k = 2) (hat : U at_) {w : World} {p q : Nat} {B : Nat → Int} (hm : RefAt w p q B) {A : AskM} (hA0 : Hid (askS S level v = A)) (hf0 : Hid (A.first = false)) (hs0 : Hid (A.second = false)) (hi0 : Hid (¬ at_ < 65536)) :
    Calls Tryd.prog 13 #[.pointer (some ⟨p, 0, none⟩), .agg (rowOf 65 (stF S)), .int .u64 at_, .int .i64 k, .int .i64 level, .bool v, .bool exec] w fun e w' => ∃ t, e = .returned (.agg (fndA (trS B S at_ k level v exec).p (trS B S at_ k level v exec).e (trS B S at_ k level v exec).f (trS B S at_ k level v exec).ok t)) ∧ OwnT w.heap.size 10 w' t ∧ Kept w w' := by
  have hat0 : Hid (U at_) := hat
  clear hat
  have hlt := hm.lt
  have hs0 := st_new w S
  have n1 : (w.alloc (.cells (rowOf 65 (stF S)) 27)).heap.size = w.heap.size + 1 := Go.Deep.nblk_alloc _ _
  have h1 := alloc_last (w.alloc (.cells (rowOf 65 (stF S)) 27)) (fndA 0 entNone fltNone false (.slice none 0 0)) 43
  rw [n1] at h1
  have n2 : ((w.alloc (.cells (rowOf 65 (stF S)) 27)).alloc (.cells (fndA 0 entNone fltNone false (.slice none 0 0)) 43)).heap.size = w.heap.size + 2 := by rw [Go.Deep.nblk_alloc, n1]
  have k2 := ((Only.refl (fun _ => False) w).alloc (.cells (rowOf 65 (stF S)) 27)).alloc (.cells (fndA 0 entNone fltNone false (.slice none 0 0)) 43)
  have s2 := hs0.alloc (.cells (fndA 0 entNone fltNone false (.slice none 0 0)) 43)
  clear hs0 n1
  go_enter Tryd.func13, Tryd.ntmps13
  go_upto_region 1 with fail
  unfold fndA entNone fltNone at h1 n2 k2 s2
  generalize ((w.alloc (.cells (rowOf 65 (stF S)) 27)).alloc (.cells #[.int .u64 0, .bool false, .bool false, .int .i64 0, .int .i64 0, .int .i64 0, .int .i64 0, .int .i64 0, .int .i64 0, .int .i64 0, .int .u64 0, .int .u64 0, .int .u64 0, .bool false, .bool false, .slice none 0 0] 43)) = w2 at h1 n2 k2 s2 ⊢
  have h3 := alloc_last w2 (fndA 0 entNone ⟨0, at_, 0, v⟩ false (.slice none 0 0)) 43
  have kk := (Only.refl (fun _ => False) w2).alloc (.cells (fndA 0 entNone ⟨0, at_, 0, v⟩ false (.slice none 0 0)) 43)
  have n3 : (w2.alloc (.cells (fndA 0 entNone ⟨0, at_, 0, v⟩ false (.slice none 0 0)) 43)).heap.size = w.heap.size + 3 := by rw [Go.Deep.nblk_alloc, n2]
  go_upto_region 2 with (refine wpList_store_row rfl 43 _ _ rfl w2.heap.size (fndA 0 entNone ⟨0, at_, 0, v⟩ false (.slice none 0 0)) rfl rfl 43 _ (heap_alloc_last w2 _) (fnd_size _ _ _ _ _) rfl (fnd_ones _ _ _ _ rfl) ?_; rw [World.setRow_alloc_new])
  rw [n2] at h3
  have kA := k2.then kk
  have hr3 := kk.block h1 id
  have s3 : StAt (w2.alloc (.cells (fndA 0 entNone ⟨0, at_, 0, v⟩ false (.slice none 0 0)) 43)) w.heap.size S := s2.alloc _
  clear h1 k2 s2 kk n2
  unfold fndA entNone at h3 hr3 n3 kA s3
  generalize (w2.alloc (.cells #[.int .u64 0, .bool false, .bool false, .int .i64 0, .int .i64 0, .int .i64 0, .int .i64 0, .int .i64 0, .int .i64 0, .int .i64 0, .int .u64 0, .int .u64 at_, .int .u64 0, .bool v, .bool false, .slice none 0 0] 43)) = w3 at h3 hr3 n3 kA s3 ⊢
  generalize hF : w.heap.size = s0 at *
  go_upto_region 3 with (first | (refine wpList_load_is rfl 27 _ rfl rfl s3 _ Tryd.underlying27 rfl st_size ?_) | (go_at_call 14; refine (rask_any hS level v _).mono ?_; rintro e w4 ⟨rfl, k4⟩; rw [show askS S level v = A from hA0]; have h4 := alloc_last w4 (askA A) 46; have kk := (Only.refl (fun _ => False) w4).alloc (.cells (askA A) 46)) | (refine wpList_store_row rfl 46 _ _ rfl w4.heap.size (askA A) rfl rfl 46 _ (heap_alloc_last w4 _) (ask_size _ _ _ _ _ _ _ _) rfl (ask_ones _) ?_; rw [World.setRow_alloc_new]))
  have r0 : TR w (w4.alloc (.cells (askA A) 46)) (s0 + 1) (s0 + 2) w4.heap.size (w4.heap.size + 1) A 0 entNone ⟨0, at_, 0, v⟩ false (.slice none 0 0) 0 :=
    ⟨(kA.then k4).then kk, kk.block (k4.block hr3 id) id, kk.block (k4.block h3 id) id, h4, ownT_nil _ _ _, by omega, by omega, by have := k4.size; omega, by omega, by rw [Go.Deep.nblk_alloc]; omega⟩
  clear kA hr3 s3 h3 h4 kk k4 n3
  simp only [Act.put]
  generalize (w4.alloc (.cells (askA A) 46)) = w5 at r0 ⊢
  generalize w4.heap.size = ab at r0 ⊢
  obtain ⟨y0, y1, y2, y3, y4, y5, y6, y7⟩ := ask_cells r0.b
  go_upto_region 4 with (refine wpList_store_mid rfl 36 _ _ rfl (s0 + 2) 1 (entA ⟨true, v, 0, A.asid, A.vmid, 0, 255, 255, 0⟩).toArray rfl rfl (r0.there 1 9 (by omega)) (ent_size _) (ent_ones _) ?_)
  clear y0 y1 y2 y3 y4 y5 y6 y7
  refine TR.go (r0.ent ⟨true, v, 0, A.asid, A.vmid, 0, 255, 255, 0⟩) ?_
  clear r0 w5 w4 w3 w2
  intro w6 r1
  obtain ⟨y0, y1, y2, y3, y4, y5, y6, y7⟩ := ask_cells r1.b
  have hf : A.first = _ := hf0
  have hs := hs0
  unfold Hid at hs
  have hi := hi0
  unfold Hid at hi
  have a0 : 0 ≤ at_ := (id hat0 : U at_).1
  have a1 : at_ < 18446744073709551616 := (id hat0 : U at_).2
  rw [hf] at y0
  rw [hs] at y1
  go_upto_region 7 with fail
  clear y0 y1 y2 y3 y4 y5 y6 y7
  have r2 := r1
  clear r1
  have v0 := r2.c0
  have u0 := r2.loose 0
  have v14 := r2.c14
  have u14 := r2.loose 14
  go_upto_region 8 with fail
  refine TR.go ((r2.put (at2 := at_) (e2 := ⟨true, v, 0, A.asid, A.vmid, 0, 255, 255, 0⟩) (f2 := ⟨0, at_, 0, v⟩) (ok2 := false) 0 (.int .u64 at_) rfl).put (at2 := at_) (e2 := ⟨true, v, 0, A.asid, A.vmid, 0, 255, 255, 0⟩) (f2 := ⟨0, at_, 0, v⟩) (ok2 := true) 14 (.bool true) rfl) ?_
  clear v0 v14 u0 u14 r2
  intro w7 r3
  have v6 := r3.c6
  have u6 := r3.loose 6
  have v9 := r3.c9
  have u9 := r3.loose 9
  have v3 := r3.c3
  go_upto_region 9 with fail
  refine TR.go ((r3.put (at2 := at_) (e2 := ⟨true, v, 0, A.asid, A.vmid, 0, 255, 255, 0⟩) (f2 := ⟨0, at_, 0, v⟩) (ok2 := true) 6 (.int .i64 0) rfl).put (at2 := at_) (e2 := ⟨true, v, 0, A.asid, A.vmid, 0, 255, 255, 0⟩) (f2 := ⟨0, at_, 0, v⟩) (ok2 := true) 9 (.int .i64 0) rfl) ?_
  clear v6 v9 u6 u9 v3 r3
  intro w8 r4
  go_upto_region 10 with (refine wpList_store_mid rfl 38 _ _ rfl (s0 + 2) 10 (fltA fltNone).toArray rfl rfl (r4.there 10 4 (by omega)) (flt_size _) (flt_ones _) ?_)
  refine TR.go (r4.flt fltNone) ?_
  clear r4
  intro w9 r5
  go_wp2_with (first | (refine wpList_load_list rfl 43 _ rfl (s0 + 2) rfl (fndA _ _ _ _ _).toList _ r5.whole Tryd.underlying43 rfl (fnd_size _ _ _ _ _) ?_) | (refine wpList_store_row rfl 43 _ _ rfl (s0 + 1) (fndA _ _ _ _ _) rfl rfl 43 _ r5.r (fnd_size _ _ _ _ _) rfl (fnd_ones _ _ _ _ rfl) ?_))
  obtain ⟨hk9, hb9, ho9⟩ := r5.done
  have hX : trS B S at_ k level v exec = ⟨at_, ⟨true, v, 0, A.asid, A.vmid, 0, 255, 255, 0⟩, fltNone, true⟩ := by
    unfold trS
    rw [show askS S level v = A from hA0, if_pos ⟨hf, hs⟩, if_neg (by omega)]
  refine bodyPost_ret ?_ rfl ⟨(.slice none 0 0), by rw [hX], ho9.more (by omega), hk9⟩
  exact results_cell_row rfl _ _ (s0 + 1) 43 _ (0, 0) _ rfl hb9 Tryd.underlying43 rfl (fnd_size _ _ _ _ _)
set_option maxRecDepth 100000 in
set_option maxHeartbeats 8000000 in
theorem rtr_far_one {S : StM} (hS : S.Ok) (at_ k level : Int) (v exec : Bool) (hk : k = 0 ∨ k = 1 ∨ k = 2) (hat : U at_) {w : World} {p q : Nat} {B : Nat → Int} (hm : RefAt w p q B) {A : AskM} (hA0 : Hid (askS S level v = A)) (hf0 : Hid (A.first = true)) (hs0 : Hid (True)) (hi0 : Hid (65536 ≤ at_)) :
    Calls Tryd.prog 13 #[.pointer (some ⟨p, 0, none⟩), .agg (rowOf 65 (stF S)), .int .u64 at_, .int .i64 k, .int .i64 level, .bool v, .bool exec] w fun e w' => ∃ t, e = .returned (.agg (fndA (trS B S at_ k level v exec).p (trS B S at_ k level v exec).e (trS B S at_ k level v exec).f (trS B S at_ k level v exec).ok t)) ∧ OwnT w.heap.size 10 w' t ∧ Kept w w' := by
  have hat0 : Hid (U at_) := hat
  have hk0 : Hid (k = 0 ∨ k = 1 ∨ k = 2) := hk
  clear hat hk
  have hlt := hm.lt
  have hs0 := st_new w S
  have n1 : (w.alloc (.cells (rowOf 65 (stF S)) 27)).heap.size = w.heap.size + 1 := Go.Deep.nblk_alloc _ _
  have h1 := alloc_last (w.alloc (.cells (rowOf 65 (stF S)) 27)) (fndA 0 entNone fltNone false (.slice none 0 0)) 43
  rw [n1] at h1
  have n2 : ((w.alloc (.cells (rowOf 65 (stF S)) 27)).alloc (.cells (fndA 0 entNone fltNone false (.slice none 0 0)) 43)).heap.size = w.heap.size + 2 := by rw [Go.Deep.nblk_alloc, n1]
  have k2 := ((Only.refl (fun _ => False) w).alloc (.cells (rowOf 65 (stF S)) 27)).alloc (.cells (fndA 0 entNone fltNone false (.slice none 0 0)) 43)
  have s2 := hs0.alloc (.cells (fndA 0 entNone fltNone false (.slice none 0 0)) 43)
  clear hs0 n1
  go_enter Tryd.func13, Tryd.ntmps13
  go_upto_region 1 with fail
  unfold fndA entNone fltNone at h1 n2 k2 s2
  generalize ((w.alloc (.cells (rowOf 65 (stF S)) 27)).alloc (.cells #[.int .u64 0, .bool false, .bool false, .int .i64 0, .int .i64 0, .int .i64 0, .int .i64 0, .int .i64 0, .int .i64 0, .int .i64 0, .int .u64 0, .int .u64 0, .int .u64 0, .bool false, .bool false, .slice none 0 0] 43)) = w2 at h1 n2 k2 s2 ⊢
  have h3 := alloc_last w2 (fndA 0 entNone ⟨0, at_, 0, v⟩ false (.slice none 0 0)) 43
  have kk := (Only.refl (fun _ => False) w2).alloc (.cells (fndA 0 entNone ⟨0, at_, 0, v⟩ false (.slice none 0 0)) 43)
  have n3 : (w2.alloc (.cells (fndA 0 entNone ⟨0, at_, 0, v⟩ false (.slice none 0 0)) 43)).heap.size = w.heap.size + 3 := by rw [Go.Deep.nblk_alloc, n2]
  go_upto_region 2 with (refine wpList_store_row rfl 43 _ _ rfl w2.heap.size (fndA 0 entNone ⟨0, at_, 0, v⟩ false (.slice none 0 0)) rfl rfl 43 _ (heap_alloc_last w2 _) (fnd_size _ _ _ _ _) rfl (fnd_ones _ _ _ _ rfl) ?_; rw [World.setRow_alloc_new])
  rw [n2] at h3
  have kA := k2.then kk
  have hr3 := kk.block h1 id
  have s3 : StAt (w2.alloc (.cells (fndA 0 entNone ⟨0, at_, 0, v⟩ false (.slice none 0 0)) 43)) w.heap.size S := s2.alloc _
  clear h1 k2 s2 kk n2
  unfold fndA entNone at h3 hr3 n3 kA s3
  generalize (w2.alloc (.cells #[.int .u64 0, .bool false, .bool false, .int .i64 0, .int .i64 0, .int .i64 0, .int .i64 0, .int .i64 0, .int .i64 0, .int .i64 0, .int .u64 0, .int .u64 at_, .int .u64 0, .bool v, .bool false, .slice none 0 0] 43)) = w3 at h3 hr3 n3 kA s3 ⊢
  generalize hF : w.heap.size = s0 at *
  go_upto_region 3 with (first | (refine wpList_load_is rfl 27 _ rfl rfl s3 _ Tryd.underlying27 rfl st_size ?_) | (go_at_call 14; refine (rask_any hS level v _).mono ?_; rintro e w4 ⟨rfl, k4⟩; rw [show askS S level v = A from hA0]; have h4 := alloc_last w4 (askA A) 46; have kk := (Only.refl (fun _ => False) w4).alloc (.cells (askA A) 46)) | (refine wpList_store_row rfl 46 _ _ rfl w4.heap.size (askA A) rfl rfl 46 _ (heap_alloc_last w4 _) (ask_size _ _ _ _ _ _ _ _) rfl (ask_ones _) ?_; rw [World.setRow_alloc_new]))
  have r0 : TR w (w4.alloc (.cells (askA A) 46)) (s0 + 1) (s0 + 2) w4.heap.size (w4.heap.size + 1) A 0 entNone ⟨0, at_, 0, v⟩ false (.slice none 0 0) 0 :=
    ⟨(kA.then k4).then kk, kk.block (k4.block hr3 id) id, kk.block (k4.block h3 id) id, h4, ownT_nil _ _ _, by omega, by omega, by have := k4.size; omega, by omega, by rw [Go.Deep.nblk_alloc]; omega⟩
  clear kA hr3 s3 h3 h4 kk k4 n3
  simp only [Act.put]
  generalize (w4.alloc (.cells (askA A) 46)) = w5 at r0 ⊢
  generalize w4.heap.size = ab at r0 ⊢
  obtain ⟨y0, y1, y2, y3, y4, y5, y6, y7⟩ := ask_cells r0.b
  go_upto_region 4 with (refine wpList_store_mid rfl 36 _ _ rfl (s0 + 2) 1 (entA ⟨true, v, 0, A.asid, A.vmid, 0, 255, 255, 0⟩).toArray rfl rfl (r0.there 1 9 (by omega)) (ent_size _) (ent_ones _) ?_)
  clear y0 y1 y2 y3 y4 y5 y6 y7
  refine TR.go (r0.ent ⟨true, v, 0, A.asid, A.vmid, 0, 255, 255, 0⟩) ?_
  clear r0 w5 w4 w3 w2
  intro w6 r1
  obtain ⟨y0, y1, y2, y3, y4, y5, y6, y7⟩ := ask_cells r1.b
  have hf : A.first = _ := hf0
  have hs := hs0
  unfold Hid at hs
  have hi := hi0
  unfold Hid at hi
  have a0 : 0 ≤ at_ := (id hat0 : U at_).1
  have a1 : at_ < 18446744073709551616 := (id hat0 : U at_).2
  have hk := (id hk0 : k = 0 ∨ k = 1 ∨ k = 2)
  have e1 : bits .and .u64 (at_ / 256) 255 = at_ / 256 % 256 := u_low (at_ / 256) 8 (by omega) 255 rfl
  have e2 : 0 ≤ at_ / 256 % 256 := by omega
  have e3 : at_ / 256 % 256 < 256 := by omega
  rw [hf] at y0
  go_upto_region 11 with fail
  have v3 := r1.c3
  have u3 := r1.loose 3
  go_upto_region 12 with fail
  refine TR.go (r1.put (at2 := 0) (e2 := ⟨true, v, at_ / 256 % 256, A.asid, A.vmid, 0, 255, 255, 0⟩) (f2 := ⟨0, at_, 0, v⟩) (ok2 := false) 3 (.int .i64 (at_ / 256 % 256)) rfl) ?_
  clear v3 u3 r1
  intro w7 r2
  clear e1 y0 y1 y2 y3 y4 y5 y6 y7
  go_upto_region 13 with fail
  go_upto_region 14 with (go_at_call 32; refine (rpage_of k hk _).mono ?_; rintro r wx ⟨rfl, kx⟩; have rx := r2.kept kx; have v10 := rx.c10; have u10 := rx.loose 10)
  clear r2
  refine TR.go (rx.put (at2 := 0) (e2 := ⟨true, v, at_ / 256 % 256, A.asid, A.vmid, 0, 255, 255, 0⟩) (f2 := ⟨pageC k, at_, 0, v⟩) (ok2 := false) 10 (.int .u64 (pageC k)) rfl) ?_
  clear v10 u10 kx rx
  intro w8 r3
  obtain ⟨y0, y1, y2, y3, y4, y5, y6, y7⟩ := ask_cells r3.b
  rw [hf] at y0
  go_upto_region 16 with fail
  clear y0 y1 y2 y3 y4 y5 y6 y7
  have r4 := r3
  clear r3
  go_upto_region 17 with (refine wpList_store_mid rfl 36 _ _ rfl (s0 + 2) 1 (entA entNone).toArray rfl rfl (r4.there 1 9 (by omega)) (ent_size _) (ent_ones _) ?_)
  refine TR.go (r4.ent entNone) ?_
  clear r4
  intro w9 r5
  go_wp2_with (first | (refine wpList_load_list rfl 43 _ rfl (s0 + 2) rfl (fndA _ _ _ _ _).toList _ r5.whole Tryd.underlying43 rfl (fnd_size _ _ _ _ _) ?_) | (refine wpList_store_row rfl 43 _ _ rfl (s0 + 1) (fndA _ _ _ _ _) rfl rfl 43 _ r5.r (fnd_size _ _ _ _ _) rfl (fnd_ones _ _ _ _ rfl) ?_))
  obtain ⟨hk9, hb9, ho9⟩ := r5.done
  have hX : trS B S at_ k level v exec = ⟨0, entNone, ⟨pageC k, at_, 0, v⟩, false⟩ := by
    unfold trS
    rw [show askS S level v = A from hA0, if_neg (by simp [hf]), if_pos hi, if_pos hf]
  refine bodyPost_ret ?_ rfl ⟨(.slice none 0 0), by rw [hX], ho9.more (by omega), hk9⟩
  exact results_cell_row rfl _ _ (s0 + 1) 43 _ (0, 0) _ rfl hb9 Tryd.underlying43 rfl (fnd_size _ _ _ _ _)
set_option maxRecDepth 100000 in
set_option maxHeartbeats 8000000 in
theorem rtr_far_two {S : StM} (hS : S.Ok) (at_ k level : Int) (v exec : Bool) (hk : k = 0 ∨ k = 1 ∨ k = 2) (hat : U at_) {w : World} {p q : Nat} {B : Nat → Int} (hm : RefAt w p q B) {A : AskM} (hA0 : Hid (askS S level v = A)) (hf0 : Hid (A.first = false)) (hs0 : Hid (A.second = true)) (hi0 : Hid (65536 ≤ at_)) :
    Calls Tryd.prog 13 #[.pointer (some ⟨p, 0, none⟩), .agg (rowOf 65 (stF S)), .int .u64 at_, .int .i64 k, .int .i64 level, .bool v, .bool exec] w fun e w' => ∃ t, e = .returned (.agg (fndA (trS B S at_ k level v exec).p (trS B S at_ k level v exec).e (trS B S at_ k level v exec).f (trS B S at_ k level v exec).ok t)) ∧ OwnT w.heap.size 10 w' t ∧ Kept w w' := by
  have hat0 : Hid (U at_) := hat
  have hk0 : Hid (k = 0 ∨ k = 1 ∨ k = 2) := hk
  clear hat hk
  have hlt := hm.lt
  have hs0 := st_new w S
  have n1 : (w.alloc (.cells (rowOf 65 (stF S)) 27)).heap.size = w.heap.size + 1 := Go.Deep.nblk_alloc _ _
  have h1 := alloc_last (w.alloc (.cells (rowOf 65 (stF S)) 27)) (fndA 0 entNone fltNone false (.slice none 0 0)) 43
  rw [n1] at h1
  have n2 : ((w.alloc (.cells (rowOf 65 (stF S)) 27)).alloc (.cells (fndA 0 entNone fltNone false (.slice none 0 0)) 43)).heap.size = w.heap.size + 2 := by rw [Go.Deep.nblk_alloc, n1]
  have k2 := ((Only.refl (fun _ => False) w).alloc (.cells (rowOf 65 (stF S)) 27)).alloc (.cells (fndA 0 entNone fltNone false (.slice none 0 0)) 43)
  have s2 := hs0.alloc (.cells (fndA 0 entNone fltNone false (.slice none 0 0)) 43)
  clear hs0 n1
  go_enter Tryd.func13, Tryd.ntmps13
  go_upto_region 1 with fail
  unfold fndA entNone fltNone at h1 n2 k2 s2
  generalize ((w.alloc (.cells (rowOf 65 (stF S)) 27)).alloc (.cells #[.int .u64 0, .bool false, .bool false, .int .i64 0, .int .i64 0, .int .i64 0, .int .i64 0, .int .i64 0, .int .i64 0, .int .i64 0, .int .u64 0, .int .u64 0, .int .u64 0, .bool false, .bool false, .slice none 0 0] 43)) = w2 at h1 n2 k2 s2 ⊢
  have h3 := alloc_last w2 (fndA 0 entNone ⟨0, at_, 0, v⟩ false (.slice none 0 0)) 43
  have kk := (Only.refl (fun _ => False) w2).alloc (.cells (fndA 0 entNone ⟨0, at_, 0, v⟩ false (.slice none 0 0)) 43)
  have n3 : (w2.alloc (.cells (fndA 0 entNone ⟨0, at_, 0, v⟩ false (.slice none 0 0)) 43)).heap.size = w.heap.size + 3 := by rw [Go.Deep.nblk_alloc, n2]
  go_upto_region 2 with (refine wpList_store_row rfl 43 _ _ rfl w2.heap.size (fndA 0 entNone ⟨0, at_, 0, v⟩ false (.slice none 0 0)) rfl rfl 43 _ (heap_alloc_last w2 _) (fnd_size _ _ _ _ _) rfl (fnd_ones _ _ _ _ rfl) ?_; rw [World.setRow_alloc_new])
  rw [n2] at h3
  have kA := k2.then kk
  have hr3 := kk.block h1 id
  have s3 : StAt (w2.alloc (.cells (fndA 0 entNone ⟨0, at_, 0, v⟩ false (.slice none 0 0)) 43)) w.heap.size S := s2.alloc _
  clear h1 k2 s2 kk n2
  unfold fndA entNone at h3 hr3 n3 kA s3
  generalize (w2.alloc (.cells #[.int .u64 0, .bool false, .bool false, .int .i64 0, .int .i64 0, .int .i64 0, .int .i64 0, .int .i64 0, .int .i64 0, .int .i64 0, .int .u64 0, .int .u64 at_, .int .u64 0, .bool v, .bool false, .slice none 0 0] 43)) = w3 at h3 hr3 n3 kA s3 ⊢
  generalize hF : w.heap.size = s0 at *
  go_upto_region 3 with (first | (refine wpList_load_is rfl 27 _ rfl rfl s3 _ Tryd.underlying27 rfl st_size ?_) | (go_at_call 14; refine (rask_any hS level v _).mono ?_; rintro e w4 ⟨rfl, k4⟩; rw [show askS S level v = A from hA0]; have h4 := alloc_last w4 (askA A) 46; have kk := (Only.refl (fun _ => False) w4).alloc (.cells (askA A) 46)) | (refine wpList_store_row rfl 46 _ _ rfl w4.heap.size (askA A) rfl rfl 46 _ (heap_alloc_last w4 _) (ask_size _ _ _ _ _ _ _ _) rfl (ask_ones _) ?_; rw [World.setRow_alloc_new]))
  have r0 : TR w (w4.alloc (.cells (askA A) 46)) (s0 + 1) (s0 + 2) w4.heap.size (w4.heap.size + 1) A 0 entNone ⟨0, at_, 0, v⟩ false (.slice none 0 0) 0 :=
    ⟨(kA.then k4).then kk, kk.block (k4.block hr3 id) id, kk.block (k4.block h3 id) id, h4, ownT_nil _ _ _, by omega, by omega, by have := k4.size; omega, by omega, by rw [Go.Deep.nblk_alloc]; omega⟩
  clear kA hr3 s3 h3 h4 kk k4 n3
  simp only [Act.put]
  generalize (w4.alloc (.cells (askA A) 46)) = w5 at r0 ⊢
  generalize w4.heap.size = ab at r0 ⊢
  obtain ⟨y0, y1, y2, y3, y4, y5, y6, y7⟩ := ask_cells r0.b
  go_upto_region 4 with (refine wpList_store_mid rfl 36 _ _ rfl (s0 + 2) 1 (entA ⟨true, v, 0, A.asid, A.vmid, 0, 255, 255, 0⟩).toArray rfl rfl (r0.there 1 9 (by omega)) (ent_size _) (ent_ones _) ?_)
  clear y0 y1 y2 y3 y4 y5 y6 y7
  refine TR.go (r0.ent ⟨true, v, 0, A.asid, A.vmid, 0, 255, 255, 0⟩) ?_
  clear r0 w5 w4 w3 w2
  intro w6 r1
  obtain ⟨y0, y1, y2, y3, y4, y5, y6, y7⟩ := ask_cells r1.b
  have hf : A.first = _ := hf0
  have hs := hs0
  unfold Hid at hs
  have hi := hi0
  unfold Hid at hi
  have a0 : 0 ≤ at_ := (id hat0 : U at_).1
  have a1 : at_ < 18446744073709551616 := (id hat0 : U at_).2
  have hk := (id hk0 : k = 0 ∨ k = 1 ∨ k = 2)
  have e1 : bits .and .u64 (at_ / 256) 255 = at_ / 256 % 256 := u_low (at_ / 256) 8 (by omega) 255 rfl
  have e2 : 0 ≤ at_ / 256 % 256 := by omega
  have e3 : at_ / 256 % 256 < 256 := by omega
  rw [hf] at y0
  rw [hs] at y1
  go_upto_region 11 with fail
  have v3 := r1.c3
  have u3 := r1.loose 3
  go_upto_region 12 with fail
  refine TR.go (r1.put (at2 := 0) (e2 := ⟨true, v, at_ / 256 % 256, A.asid, A.vmid, 0, 255, 255, 0⟩) (f2 := ⟨0, at_, 0, v⟩) (ok2 := false) 3 (.int .i64 (at_ / 256 % 256)) rfl) ?_
  clear v3 u3 r1
  intro w7 r2
  clear e1 y0 y1 y2 y3 y4 y5 y6 y7
  go_upto_region 13 with fail
  go_upto_region 14 with (go_at_call 32; refine (rpage_of k hk _).mono ?_; rintro r wx ⟨rfl, kx⟩; have rx := r2.kept kx; have v10 := rx.c10; have u10 := rx.loose 10)
  clear r2
  refine TR.go (rx.put (at2 := 0) (e2 := ⟨true, v, at_ / 256 % 256, A.asid, A.vmid, 0, 255, 255, 0⟩) (f2 := ⟨pageC k, at_, 0, v⟩) (ok2 := false) 10 (.int .u64 (pageC k)) rfl) ?_
  clear v10 u10 kx rx
  intro w8 r3
  obtain ⟨y0, y1, y2, y3, y4, y5, y6, y7⟩ := ask_cells r3.b
  rw [hf] at y0
  go_upto_region 15 with fail
  clear y0 y1 y2 y3 y4 y5 y6 y7
  go_upto_region 16 with (go_at_call 33; refine (rgf_of k hk _).mono ?_; rintro r wx ⟨rfl, kx⟩; have rx := r3.kept kx; have v10 := rx.c10; have u10 := rx.loose 10; have v12 := rx.c12; have u12 := rx.loose 12)
  clear r3
  refine TR.go ((rx.put (at2 := 0) (e2 := ⟨true, v, at_ / 256 % 256, A.asid, A.vmid, 0, 255, 255, 0⟩) (f2 := ⟨gfC k, at_, 0, v⟩) (ok2 := false) 10 (.int .u64 (gfC k)) rfl).put (at2 := 0) (e2 := ⟨true, v, at_ / 256 % 256, A.asid, A.vmid, 0, 255, 255, 0⟩) (f2 := ⟨gfC k, at_, at_ / 4, v⟩) (ok2 := false) 12 (.int .u64 (at_ / 4)) rfl) ?_
  clear v10 u10 v12 u12 kx rx
  intro w9 r4
  go_upto_region 17 with (refine wpList_store_mid rfl 36 _ _ rfl (s0 + 2) 1 (entA entNone).toArray rfl rfl (r4.there 1 9 (by omega)) (ent_size _) (ent_ones _) ?_)
  refine TR.go (r4.ent entNone) ?_
  clear r4
  intro w10 r5
  go_wp2_with (first | (refine wpList_load_list rfl 43 _ rfl (s0 + 2) rfl (fndA _ _ _ _ _).toList _ r5.whole Tryd.underlying43 rfl (fnd_size _ _ _ _ _) ?_) | (refine wpList_store_row rfl 43 _ _ rfl (s0 + 1) (fndA _ _ _ _ _) rfl rfl 43 _ r5.r (fnd_size _ _ _ _ _) rfl (fnd_ones _ _ _ _ rfl) ?_))
  obtain ⟨hk9, hb9, ho9⟩ := r5.done
  have hX : trS B S at_ k level v exec = ⟨0, entNone, ⟨gfC k, at_, at_ / 4, v⟩, false⟩ := by
    unfold trS
    rw [show askS S level v = A from hA0, if_neg (by simp [hf, hs]), if_pos hi, if_neg (by simp [hf])]
  refine bodyPost_ret ?_ rfl ⟨(.slice none 0 0), by rw [hX], ho9.more (by omega), hk9⟩
  exact results_cell_row rfl _ _ (s0 + 1) 43 _ (0, 0) _ rfl hb9 Tryd.underlying43 rfl (fnd_size _ _ _ _ _)
end Go.Proofs.YtpplclenokfpeaaDoor
