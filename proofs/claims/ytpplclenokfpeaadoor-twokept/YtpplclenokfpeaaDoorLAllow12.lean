/-
  What the statements' own allowed answers (whether an entry lets an access through): walked whole, for every argument.
-/
import Derived.Test.YtpplclenokfpeaaDoorTwoFace
import Derived.Test.YtpplclenokfpeaaDoorTPteMath
import Derived.Test.YtpplclenokfpeaaDoorRefCsr4
import Derived.Test.YtpplclenokfpeaaDoorRefFirst
import Derived.Deep.RegionHeld3
namespace Go.Proofs.YtpplclenokfpeaaDoor
open Go.RowKit
theorem run_loadVar_cell12a {w : World} {b o : Nat} {v : Value} {ty : TypeId} {d : TypeDesc} (h : w.cell? ⟨b, o, none⟩ = some v) (hd : (match d with | .struct _ | .array _ _ => false | _ => true) = true) (hu : Tryd.prog.underlying ty = some d) : (loadVar ty ⟨b, o, none⟩).run Tryd.prog w = .ok v w := by
  have hagg : (isAgg ty).run Tryd.prog w = .ok false w := by
    unfold isAgg
    rw [Sem.run_bind, run_underlying hu w]
    cases d <;> simp_all
  simp [loadVar, Sem.run_bind, hagg, h, go_sem]
theorem box2_has12 (w : World) (A B : Array Value) (T1 T2 : TypeId) : Blk ((w.alloc (.cells A T1)).alloc (.cells B T2)) w.heap.size T1 A := ((Only.refl (fun _ => False) (w.alloc (.cells A T1))).alloc _).block (alloc_last w A T1) id
set_option maxRecDepth 100000 in
set_option maxHeartbeats 4000000 in
theorem lallow_page {S : StM} (hS : S.Ok) (e : EntM) (at_ k level : Int) (v : Bool) (hk : k = 0 ∨ k = 1 ∨ k = 2) (P1 : Hid ((e.bits != 255) = true)) (P2 : Hid (mayE e.bits k (level == 0) (askS S level v).sum (askS S level v).mxr = false)) (w : World) :
    Calls Tryd.prog 19 #[.agg (rowOf 65 (stF S)), .agg (entA e).toArray, .int .u64 at_, .int .i64 k, .int .i64 level, .bool v] w fun r w' => r = .returned (.tuple #[.agg (fltA ⟨pageC k, at_, 0, v⟩).toArray, .bool false]) ∧ Kept w w' := by
  have h0 := st_new w S
  have n1 : (w.alloc (.cells (rowOf 65 (stF S)) 27)).heap.size = w.heap.size + 1 := Go.Deep.nblk_alloc _ _
  have b0 := box2_has12 (w.alloc (.cells (rowOf 65 (stF S)) 27)) (entA e).toArray (fltA fltNone).toArray 36 38
  have r0 := alloc_last ((w.alloc (.cells (rowOf 65 (stF S)) 27)).alloc (.cells (entA e).toArray 36)) (fltA fltNone).toArray 38
  have n2 : ((w.alloc (.cells (rowOf 65 (stF S)) 27)).alloc (.cells (entA e).toArray 36)).heap.size = w.heap.size + 1 + 1 := by rw [Go.Deep.nblk_alloc, n1]
  rw [n1] at b0
  rw [n2] at r0
  have s0 : StAt (((w.alloc (.cells (rowOf 65 (stF S)) 27)).alloc (.cells (entA e).toArray 36)).alloc (.cells (fltA fltNone).toArray 38)) w.heap.size S := st_kept h0 (((Only.refl _ _).alloc _).alloc _)
  have kk : Kept w (((w.alloc (.cells (rowOf 65 (stF S)) 27)).alloc (.cells (entA e).toArray 36)).alloc (.cells (fltA fltNone).toArray 38)) := (((Only.refl _ w).alloc _).alloc _).alloc _
  clear h0 n1 n2
  go_enter Tryd.func19, Tryd.ntmps19
  go_upto_region 1 with (refine wpList_alloc_is rfl 38 rfl (fltA fltNone).toArray flt_zero' ?_)
  generalize (((w.alloc (.cells (rowOf 65 (stF S)) 27)).alloc (.cells (entA e).toArray 36)).alloc (.cells (fltA fltNone).toArray 38)) = w1 at b0 r0 s0 kk ⊢
  go_upto_region 2 with (first | (refine wpList_load_is (by rfl) 27 _ rfl rfl s0 _ Tryd.underlying27 rfl st_size ?_) | (go_at_call 14; refine (rask_any hS level v _).mono ?_; rintro r w2 ⟨rfl, k2⟩) | (refine wpList_alloc_go rfl 46 rfl (askA ⟨false, false, false, false, 0, 0, 0, 0⟩) ask_zero' ?_; intro ab w3 n3 k3 m3 a3) | (refine wpList_store_go rfl 46 _ _ rfl ab (askA (askS S level v)) rfl rfl a3 (ask_size _ _ _ _ _ _ _ _) ((ask_len _).trans (ask_len _).symm) (ask_ones _) ?_; intro w4 o4 a4))
  try simp only [Act.put, List.setIfInBounds_toArray, List.set_cons_zero, List.set_cons_succ]
  have l0 := kk.size
  have kq : Kept w1 w4 := (k2.then k3).new o4 fun i hi => by have := k2.size; omega
  have k4 := kk.then kq
  have b4 : Blk w4 _ _ _ := Blk.kept b0 kq
  have r4 : Blk w4 _ _ _ := Blk.kept r0 kq
  clear b0 r0 s0 kk k2 k3 o4 a3 kq l0
  obtain ⟨y0, y1, y2, y3, y4, y5, y6, y7⟩ := ask_cells a4
  have c6 : _ = some (Value.int .i64 e.bits) := b4.cell 6
  have c7 : _ = some (Value.int .i64 e.host) := b4.cell 7
  have p1 := P1
  unfold Hid at p1
  have p2 := P2
  unfold Hid at p2
  go_upto_region 3 with (go_at_call 45; refine (rmay_of _ _ _ _ _ _).mono ?_; rintro r wy ⟨rfl, hwy⟩; rw [hwy, p2]; clear hwy wy)
  go_wp2_with (first | (go_at_call 32; refine (rpage_of k hk _).mono ?_; rintro r w5 ⟨rfl, k5⟩; have r5 : Blk w5 _ _ _ := r4.kept k5) | (refine wpList_built_is (by rfl) 38 _ rfl (fltA ⟨pageC k, at_, 0, v⟩).toArray (by kernel_rfl) ?_) | (refine wpList_store_go rfl 38 _ _ rfl (w.heap.size + 1 + 1) (fltA ⟨pageC k, at_, 0, v⟩).toArray rfl rfl r5 (flt_size' _) ((flt_len _).trans (flt_len _).symm) (flt_ones' _) ?_; intro w6 o6 r6))
  have k6 : Kept w w6 := (k4.then k5).new o6 fun i hi => by omega
  refine bodyPost_ret (results_cell2 rfl _ _ _ _ _ rfl (load_list w6 _ _ (fltA ⟨pageC k, at_, 0, v⟩).toArray.toList _ r6.all Tryd.underlying38 rfl (flt_size' _))) rfl ⟨rfl, k6⟩
set_option maxRecDepth 100000 in
set_option maxHeartbeats 4000000 in
theorem lallow_ok_255_255 {S : StM} (hS : S.Ok) (e : EntM) (at_ k level : Int) (v : Bool) (_hk : k = 0 ∨ k = 1 ∨ k = 2) (P1 : Hid ((e.bits != 255) = false)) (Q1 : Hid ((e.host != 255) = false)) (w : World) :
    Calls Tryd.prog 19 #[.agg (rowOf 65 (stF S)), .agg (entA e).toArray, .int .u64 at_, .int .i64 k, .int .i64 level, .bool v] w fun r w' => r = .returned (.tuple #[.agg (fltA fltNone).toArray, .bool true]) ∧ Kept w w' := by
  have h0 := st_new w S
  have n1 : (w.alloc (.cells (rowOf 65 (stF S)) 27)).heap.size = w.heap.size + 1 := Go.Deep.nblk_alloc _ _
  have b0 := box2_has12 (w.alloc (.cells (rowOf 65 (stF S)) 27)) (entA e).toArray (fltA fltNone).toArray 36 38
  have r0 := alloc_last ((w.alloc (.cells (rowOf 65 (stF S)) 27)).alloc (.cells (entA e).toArray 36)) (fltA fltNone).toArray 38
  have n2 : ((w.alloc (.cells (rowOf 65 (stF S)) 27)).alloc (.cells (entA e).toArray 36)).heap.size = w.heap.size + 1 + 1 := by rw [Go.Deep.nblk_alloc, n1]
  rw [n1] at b0
  rw [n2] at r0
  have s0 : StAt (((w.alloc (.cells (rowOf 65 (stF S)) 27)).alloc (.cells (entA e).toArray 36)).alloc (.cells (fltA fltNone).toArray 38)) w.heap.size S := st_kept h0 (((Only.refl _ _).alloc _).alloc _)
  have kk : Kept w (((w.alloc (.cells (rowOf 65 (stF S)) 27)).alloc (.cells (entA e).toArray 36)).alloc (.cells (fltA fltNone).toArray 38)) := (((Only.refl _ w).alloc _).alloc _).alloc _
  clear h0 n1 n2
  go_enter Tryd.func19, Tryd.ntmps19
  go_upto_region 1 with (refine wpList_alloc_is rfl 38 rfl (fltA fltNone).toArray flt_zero' ?_)
  generalize (((w.alloc (.cells (rowOf 65 (stF S)) 27)).alloc (.cells (entA e).toArray 36)).alloc (.cells (fltA fltNone).toArray 38)) = w1 at b0 r0 s0 kk ⊢
  go_upto_region 2 with (first | (refine wpList_load_is (by rfl) 27 _ rfl rfl s0 _ Tryd.underlying27 rfl st_size ?_) | (go_at_call 14; refine (rask_any hS level v _).mono ?_; rintro r w2 ⟨rfl, k2⟩) | (refine wpList_alloc_go rfl 46 rfl (askA ⟨false, false, false, false, 0, 0, 0, 0⟩) ask_zero' ?_; intro ab w3 n3 k3 m3 a3) | (refine wpList_store_go rfl 46 _ _ rfl ab (askA (askS S level v)) rfl rfl a3 (ask_size _ _ _ _ _ _ _ _) ((ask_len _).trans (ask_len _).symm) (ask_ones _) ?_; intro w4 o4 a4))
  try simp only [Act.put, List.setIfInBounds_toArray, List.set_cons_zero, List.set_cons_succ]
  have l0 := kk.size
  have kq : Kept w1 w4 := (k2.then k3).new o4 fun i hi => by have := k2.size; omega
  have k4 := kk.then kq
  have b4 : Blk w4 _ _ _ := Blk.kept b0 kq
  have r4 : Blk w4 _ _ _ := Blk.kept r0 kq
  clear b0 r0 s0 kk k2 k3 o4 a3 kq l0
  obtain ⟨y0, y1, y2, y3, y4, y5, y6, y7⟩ := ask_cells a4
  have c6 : _ = some (Value.int .i64 e.bits) := b4.cell 6
  have c7 : _ = some (Value.int .i64 e.host) := b4.cell 7
  have p1 := P1
  unfold Hid at p1
  have q1 := Q1
  unfold Hid at q1
  go_upto_region 4 with fail
  go_upto_region 6 with fail
  clear c6 c7 y0 y1 y2 y3 y4 y5 y6 y7
  go_wp2_with (first | (refine wpList_built_is (by rfl) 38 _ rfl (fltA fltNone).toArray (by kernel_rfl) ?_) | (refine wpList_store_go rfl 38 _ _ rfl (w.heap.size + 1 + 1) (fltA fltNone).toArray rfl rfl r4 (flt_size' _) ((flt_len _).trans (flt_len _).symm) (flt_ones' _) ?_; intro w6 o6 r6))
  have k6 : Kept w w6 := k4.new o6 fun i hi => by omega
  refine bodyPost_ret (results_cell2 rfl _ _ _ _ _ rfl (load_list w6 _ _ (fltA fltNone).toArray.toList _ r6.all Tryd.underlying38 rfl (flt_size' _))) rfl ⟨rfl, k6⟩
set_option maxRecDepth 100000 in
set_option maxHeartbeats 4000000 in
theorem lallow_ok_255_may {S : StM} (hS : S.Ok) (e : EntM) (at_ k level : Int) (v : Bool) (_hk : k = 0 ∨ k = 1 ∨ k = 2) (P1 : Hid ((e.bits != 255) = false)) (Q1 : Hid ((e.host != 255) = true)) (Q2 : Hid (mayE e.host k true false false = true)) (w : World) :
    Calls Tryd.prog 19 #[.agg (rowOf 65 (stF S)), .agg (entA e).toArray, .int .u64 at_, .int .i64 k, .int .i64 level, .bool v] w fun r w' => r = .returned (.tuple #[.agg (fltA fltNone).toArray, .bool true]) ∧ Kept w w' := by
  have h0 := st_new w S
  have n1 : (w.alloc (.cells (rowOf 65 (stF S)) 27)).heap.size = w.heap.size + 1 := Go.Deep.nblk_alloc _ _
  have b0 := box2_has12 (w.alloc (.cells (rowOf 65 (stF S)) 27)) (entA e).toArray (fltA fltNone).toArray 36 38
  have r0 := alloc_last ((w.alloc (.cells (rowOf 65 (stF S)) 27)).alloc (.cells (entA e).toArray 36)) (fltA fltNone).toArray 38
  have n2 : ((w.alloc (.cells (rowOf 65 (stF S)) 27)).alloc (.cells (entA e).toArray 36)).heap.size = w.heap.size + 1 + 1 := by rw [Go.Deep.nblk_alloc, n1]
  rw [n1] at b0
  rw [n2] at r0
  have s0 : StAt (((w.alloc (.cells (rowOf 65 (stF S)) 27)).alloc (.cells (entA e).toArray 36)).alloc (.cells (fltA fltNone).toArray 38)) w.heap.size S := st_kept h0 (((Only.refl _ _).alloc _).alloc _)
  have kk : Kept w (((w.alloc (.cells (rowOf 65 (stF S)) 27)).alloc (.cells (entA e).toArray 36)).alloc (.cells (fltA fltNone).toArray 38)) := (((Only.refl _ w).alloc _).alloc _).alloc _
  clear h0 n1 n2
  go_enter Tryd.func19, Tryd.ntmps19
  go_upto_region 1 with (refine wpList_alloc_is rfl 38 rfl (fltA fltNone).toArray flt_zero' ?_)
  generalize (((w.alloc (.cells (rowOf 65 (stF S)) 27)).alloc (.cells (entA e).toArray 36)).alloc (.cells (fltA fltNone).toArray 38)) = w1 at b0 r0 s0 kk ⊢
  go_upto_region 2 with (first | (refine wpList_load_is (by rfl) 27 _ rfl rfl s0 _ Tryd.underlying27 rfl st_size ?_) | (go_at_call 14; refine (rask_any hS level v _).mono ?_; rintro r w2 ⟨rfl, k2⟩) | (refine wpList_alloc_go rfl 46 rfl (askA ⟨false, false, false, false, 0, 0, 0, 0⟩) ask_zero' ?_; intro ab w3 n3 k3 m3 a3) | (refine wpList_store_go rfl 46 _ _ rfl ab (askA (askS S level v)) rfl rfl a3 (ask_size _ _ _ _ _ _ _ _) ((ask_len _).trans (ask_len _).symm) (ask_ones _) ?_; intro w4 o4 a4))
  try simp only [Act.put, List.setIfInBounds_toArray, List.set_cons_zero, List.set_cons_succ]
  have l0 := kk.size
  have kq : Kept w1 w4 := (k2.then k3).new o4 fun i hi => by have := k2.size; omega
  have k4 := kk.then kq
  have b4 : Blk w4 _ _ _ := Blk.kept b0 kq
  have r4 : Blk w4 _ _ _ := Blk.kept r0 kq
  clear b0 r0 s0 kk k2 k3 o4 a3 kq l0
  obtain ⟨y0, y1, y2, y3, y4, y5, y6, y7⟩ := ask_cells a4
  have c6 : _ = some (Value.int .i64 e.bits) := b4.cell 6
  have c7 : _ = some (Value.int .i64 e.host) := b4.cell 7
  have p1 := P1
  unfold Hid at p1
  have q1 := Q1
  unfold Hid at q1
  have q2 := Q2
  unfold Hid at q2
  go_upto_region 4 with fail
  go_upto_region 6 with (go_at_call 45; refine (rmay_of _ _ _ _ _ _).mono ?_; rintro r wy ⟨rfl, hwy⟩; rw [hwy, q2]; clear hwy wy)
  clear c6 c7 y0 y1 y2 y3 y4 y5 y6 y7
  go_wp2_with (first | (refine wpList_built_is (by rfl) 38 _ rfl (fltA fltNone).toArray (by kernel_rfl) ?_) | (refine wpList_store_go rfl 38 _ _ rfl (w.heap.size + 1 + 1) (fltA fltNone).toArray rfl rfl r4 (flt_size' _) ((flt_len _).trans (flt_len _).symm) (flt_ones' _) ?_; intro w6 o6 r6))
  have k6 : Kept w w6 := k4.new o6 fun i hi => by omega
  refine bodyPost_ret (results_cell2 rfl _ _ _ _ _ rfl (load_list w6 _ _ (fltA fltNone).toArray.toList _ r6.all Tryd.underlying38 rfl (flt_size' _))) rfl ⟨rfl, k6⟩
set_option maxRecDepth 100000 in
set_option maxHeartbeats 4000000 in
theorem lallow_ok_may_255 {S : StM} (hS : S.Ok) (e : EntM) (at_ k level : Int) (v : Bool) (_hk : k = 0 ∨ k = 1 ∨ k = 2) (P1 : Hid ((e.bits != 255) = true)) (P2 : Hid (mayE e.bits k (level == 0) (askS S level v).sum (askS S level v).mxr = true)) (Q1 : Hid ((e.host != 255) = false)) (w : World) :
    Calls Tryd.prog 19 #[.agg (rowOf 65 (stF S)), .agg (entA e).toArray, .int .u64 at_, .int .i64 k, .int .i64 level, .bool v] w fun r w' => r = .returned (.tuple #[.agg (fltA fltNone).toArray, .bool true]) ∧ Kept w w' := by
  have h0 := st_new w S
  have n1 : (w.alloc (.cells (rowOf 65 (stF S)) 27)).heap.size = w.heap.size + 1 := Go.Deep.nblk_alloc _ _
  have b0 := box2_has12 (w.alloc (.cells (rowOf 65 (stF S)) 27)) (entA e).toArray (fltA fltNone).toArray 36 38
  have r0 := alloc_last ((w.alloc (.cells (rowOf 65 (stF S)) 27)).alloc (.cells (entA e).toArray 36)) (fltA fltNone).toArray 38
  have n2 : ((w.alloc (.cells (rowOf 65 (stF S)) 27)).alloc (.cells (entA e).toArray 36)).heap.size = w.heap.size + 1 + 1 := by rw [Go.Deep.nblk_alloc, n1]
  rw [n1] at b0
  rw [n2] at r0
  have s0 : StAt (((w.alloc (.cells (rowOf 65 (stF S)) 27)).alloc (.cells (entA e).toArray 36)).alloc (.cells (fltA fltNone).toArray 38)) w.heap.size S := st_kept h0 (((Only.refl _ _).alloc _).alloc _)
  have kk : Kept w (((w.alloc (.cells (rowOf 65 (stF S)) 27)).alloc (.cells (entA e).toArray 36)).alloc (.cells (fltA fltNone).toArray 38)) := (((Only.refl _ w).alloc _).alloc _).alloc _
  clear h0 n1 n2
  go_enter Tryd.func19, Tryd.ntmps19
  go_upto_region 1 with (refine wpList_alloc_is rfl 38 rfl (fltA fltNone).toArray flt_zero' ?_)
  generalize (((w.alloc (.cells (rowOf 65 (stF S)) 27)).alloc (.cells (entA e).toArray 36)).alloc (.cells (fltA fltNone).toArray 38)) = w1 at b0 r0 s0 kk ⊢
  go_upto_region 2 with (first | (refine wpList_load_is (by rfl) 27 _ rfl rfl s0 _ Tryd.underlying27 rfl st_size ?_) | (go_at_call 14; refine (rask_any hS level v _).mono ?_; rintro r w2 ⟨rfl, k2⟩) | (refine wpList_alloc_go rfl 46 rfl (askA ⟨false, false, false, false, 0, 0, 0, 0⟩) ask_zero' ?_; intro ab w3 n3 k3 m3 a3) | (refine wpList_store_go rfl 46 _ _ rfl ab (askA (askS S level v)) rfl rfl a3 (ask_size _ _ _ _ _ _ _ _) ((ask_len _).trans (ask_len _).symm) (ask_ones _) ?_; intro w4 o4 a4))
  try simp only [Act.put, List.setIfInBounds_toArray, List.set_cons_zero, List.set_cons_succ]
  have l0 := kk.size
  have kq : Kept w1 w4 := (k2.then k3).new o4 fun i hi => by have := k2.size; omega
  have k4 := kk.then kq
  have b4 : Blk w4 _ _ _ := Blk.kept b0 kq
  have r4 : Blk w4 _ _ _ := Blk.kept r0 kq
  clear b0 r0 s0 kk k2 k3 o4 a3 kq l0
  obtain ⟨y0, y1, y2, y3, y4, y5, y6, y7⟩ := ask_cells a4
  have c6 : _ = some (Value.int .i64 e.bits) := b4.cell 6
  have c7 : _ = some (Value.int .i64 e.host) := b4.cell 7
  have p1 := P1
  unfold Hid at p1
  have q1 := Q1
  unfold Hid at q1
  have p2 := P2
  unfold Hid at p2
  go_upto_region 4 with (go_at_call 45; refine (rmay_of _ _ _ _ _ _).mono ?_; rintro r wy ⟨rfl, hwy⟩; rw [hwy, p2]; clear hwy wy)
  go_upto_region 6 with fail
  clear c6 c7 y0 y1 y2 y3 y4 y5 y6 y7
  go_wp2_with (first | (refine wpList_built_is (by rfl) 38 _ rfl (fltA fltNone).toArray (by kernel_rfl) ?_) | (refine wpList_store_go rfl 38 _ _ rfl (w.heap.size + 1 + 1) (fltA fltNone).toArray rfl rfl r4 (flt_size' _) ((flt_len _).trans (flt_len _).symm) (flt_ones' _) ?_; intro w6 o6 r6))
  have k6 : Kept w w6 := k4.new o6 fun i hi => by omega
  refine bodyPost_ret (results_cell2 rfl _ _ _ _ _ rfl (load_list w6 _ _ (fltA fltNone).toArray.toList _ r6.all Tryd.underlying38 rfl (flt_size' _))) rfl ⟨rfl, k6⟩
set_option maxRecDepth 100000 in
set_option maxHeartbeats 4000000 in
theorem lallow_ok_may_may {S : StM} (hS : S.Ok) (e : EntM) (at_ k level : Int) (v : Bool) (_hk : k = 0 ∨ k = 1 ∨ k = 2) (P1 : Hid ((e.bits != 255) = true)) (P2 : Hid (mayE e.bits k (level == 0) (askS S level v).sum (askS S level v).mxr = true)) (Q1 : Hid ((e.host != 255) = true)) (Q2 : Hid (mayE e.host k true false false = true)) (w : World) :
    Calls Tryd.prog 19 #[.agg (rowOf 65 (stF S)), .agg (entA e).toArray, .int .u64 at_, .int .i64 k, .int .i64 level, .bool v] w fun r w' => r = .returned (.tuple #[.agg (fltA fltNone).toArray, .bool true]) ∧ Kept w w' := by
  have h0 := st_new w S
  have n1 : (w.alloc (.cells (rowOf 65 (stF S)) 27)).heap.size = w.heap.size + 1 := Go.Deep.nblk_alloc _ _
  have b0 := box2_has12 (w.alloc (.cells (rowOf 65 (stF S)) 27)) (entA e).toArray (fltA fltNone).toArray 36 38
  have r0 := alloc_last ((w.alloc (.cells (rowOf 65 (stF S)) 27)).alloc (.cells (entA e).toArray 36)) (fltA fltNone).toArray 38
  have n2 : ((w.alloc (.cells (rowOf 65 (stF S)) 27)).alloc (.cells (entA e).toArray 36)).heap.size = w.heap.size + 1 + 1 := by rw [Go.Deep.nblk_alloc, n1]
  rw [n1] at b0
  rw [n2] at r0
  have s0 : StAt (((w.alloc (.cells (rowOf 65 (stF S)) 27)).alloc (.cells (entA e).toArray 36)).alloc (.cells (fltA fltNone).toArray 38)) w.heap.size S := st_kept h0 (((Only.refl _ _).alloc _).alloc _)
  have kk : Kept w (((w.alloc (.cells (rowOf 65 (stF S)) 27)).alloc (.cells (entA e).toArray 36)).alloc (.cells (fltA fltNone).toArray 38)) := (((Only.refl _ w).alloc _).alloc _).alloc _
  clear h0 n1 n2
  go_enter Tryd.func19, Tryd.ntmps19
  go_upto_region 1 with (refine wpList_alloc_is rfl 38 rfl (fltA fltNone).toArray flt_zero' ?_)
  generalize (((w.alloc (.cells (rowOf 65 (stF S)) 27)).alloc (.cells (entA e).toArray 36)).alloc (.cells (fltA fltNone).toArray 38)) = w1 at b0 r0 s0 kk ⊢
  go_upto_region 2 with (first | (refine wpList_load_is (by rfl) 27 _ rfl rfl s0 _ Tryd.underlying27 rfl st_size ?_) | (go_at_call 14; refine (rask_any hS level v _).mono ?_; rintro r w2 ⟨rfl, k2⟩) | (refine wpList_alloc_go rfl 46 rfl (askA ⟨false, false, false, false, 0, 0, 0, 0⟩) ask_zero' ?_; intro ab w3 n3 k3 m3 a3) | (refine wpList_store_go rfl 46 _ _ rfl ab (askA (askS S level v)) rfl rfl a3 (ask_size _ _ _ _ _ _ _ _) ((ask_len _).trans (ask_len _).symm) (ask_ones _) ?_; intro w4 o4 a4))
  try simp only [Act.put, List.setIfInBounds_toArray, List.set_cons_zero, List.set_cons_succ]
  have l0 := kk.size
  have kq : Kept w1 w4 := (k2.then k3).new o4 fun i hi => by have := k2.size; omega
  have k4 := kk.then kq
  have b4 : Blk w4 _ _ _ := Blk.kept b0 kq
  have r4 : Blk w4 _ _ _ := Blk.kept r0 kq
  clear b0 r0 s0 kk k2 k3 o4 a3 kq l0
  obtain ⟨y0, y1, y2, y3, y4, y5, y6, y7⟩ := ask_cells a4
  have c6 : _ = some (Value.int .i64 e.bits) := b4.cell 6
  have c7 : _ = some (Value.int .i64 e.host) := b4.cell 7
  have p1 := P1
  unfold Hid at p1
  have q1 := Q1
  unfold Hid at q1
  have p2 := P2
  unfold Hid at p2
  have q2 := Q2
  unfold Hid at q2
  go_upto_region 4 with (go_at_call 45; refine (rmay_of _ _ _ _ _ _).mono ?_; rintro r wy ⟨rfl, hwy⟩; rw [hwy, p2]; clear hwy wy)
  go_upto_region 6 with (go_at_call 45; refine (rmay_of _ _ _ _ _ _).mono ?_; rintro r wy ⟨rfl, hwy⟩; rw [hwy, q2]; clear hwy wy)
  clear c6 c7 y0 y1 y2 y3 y4 y5 y6 y7
  go_wp2_with (first | (refine wpList_built_is (by rfl) 38 _ rfl (fltA fltNone).toArray (by kernel_rfl) ?_) | (refine wpList_store_go rfl 38 _ _ rfl (w.heap.size + 1 + 1) (fltA fltNone).toArray rfl rfl r4 (flt_size' _) ((flt_len _).trans (flt_len _).symm) (flt_ones' _) ?_; intro w6 o6 r6))
  have k6 : Kept w w6 := k4.new o6 fun i hi => by omega
  refine bodyPost_ret (results_cell2 rfl _ _ _ _ _ rfl (load_list w6 _ _ (fltA fltNone).toArray.toList _ r6.all Tryd.underlying38 rfl (flt_size' _))) rfl ⟨rfl, k6⟩
set_option maxRecDepth 100000 in
set_option maxHeartbeats 4000000 in
theorem lallow_guest_255 {S : StM} (hS : S.Ok) (e : EntM) (at_ k level : Int) (v : Bool) (hk : k = 0 ∨ k = 1 ∨ k = 2) (P1 : Hid ((e.bits != 255) = false)) (Q1 : Hid ((e.host != 255) = true)) (Q2 : Hid (mayE e.host k true false false = false)) (hg : 0 ≤ e.guest ∧ e.guest < 256) (w : World) :
    Calls Tryd.prog 19 #[.agg (rowOf 65 (stF S)), .agg (entA e).toArray, .int .u64 at_, .int .i64 k, .int .i64 level, .bool v] w fun r w' => r = .returned (.tuple #[.agg (fltA ⟨gfC k, at_, (e.guest * 256 + at_ % 256) / 4, v⟩).toArray, .bool false]) ∧ Kept w w' := by
  have h0 := st_new w S
  have n1 : (w.alloc (.cells (rowOf 65 (stF S)) 27)).heap.size = w.heap.size + 1 := Go.Deep.nblk_alloc _ _
  have b0 := box2_has12 (w.alloc (.cells (rowOf 65 (stF S)) 27)) (entA e).toArray (fltA fltNone).toArray 36 38
  have r0 := alloc_last ((w.alloc (.cells (rowOf 65 (stF S)) 27)).alloc (.cells (entA e).toArray 36)) (fltA fltNone).toArray 38
  have n2 : ((w.alloc (.cells (rowOf 65 (stF S)) 27)).alloc (.cells (entA e).toArray 36)).heap.size = w.heap.size + 1 + 1 := by rw [Go.Deep.nblk_alloc, n1]
  rw [n1] at b0
  rw [n2] at r0
  have s0 : StAt (((w.alloc (.cells (rowOf 65 (stF S)) 27)).alloc (.cells (entA e).toArray 36)).alloc (.cells (fltA fltNone).toArray 38)) w.heap.size S := st_kept h0 (((Only.refl _ _).alloc _).alloc _)
  have kk : Kept w (((w.alloc (.cells (rowOf 65 (stF S)) 27)).alloc (.cells (entA e).toArray 36)).alloc (.cells (fltA fltNone).toArray 38)) := (((Only.refl _ w).alloc _).alloc _).alloc _
  clear h0 n1 n2
  go_enter Tryd.func19, Tryd.ntmps19
  go_upto_region 1 with (refine wpList_alloc_is rfl 38 rfl (fltA fltNone).toArray flt_zero' ?_)
  generalize (((w.alloc (.cells (rowOf 65 (stF S)) 27)).alloc (.cells (entA e).toArray 36)).alloc (.cells (fltA fltNone).toArray 38)) = w1 at b0 r0 s0 kk ⊢
  go_upto_region 2 with (first | (refine wpList_load_is (by rfl) 27 _ rfl rfl s0 _ Tryd.underlying27 rfl st_size ?_) | (go_at_call 14; refine (rask_any hS level v _).mono ?_; rintro r w2 ⟨rfl, k2⟩) | (refine wpList_alloc_go rfl 46 rfl (askA ⟨false, false, false, false, 0, 0, 0, 0⟩) ask_zero' ?_; intro ab w3 n3 k3 m3 a3) | (refine wpList_store_go rfl 46 _ _ rfl ab (askA (askS S level v)) rfl rfl a3 (ask_size _ _ _ _ _ _ _ _) ((ask_len _).trans (ask_len _).symm) (ask_ones _) ?_; intro w4 o4 a4))
  try simp only [Act.put, List.setIfInBounds_toArray, List.set_cons_zero, List.set_cons_succ]
  have l0 := kk.size
  have kq : Kept w1 w4 := (k2.then k3).new o4 fun i hi => by have := k2.size; omega
  have k4 := kk.then kq
  have b4 : Blk w4 _ _ _ := Blk.kept b0 kq
  have r4 : Blk w4 _ _ _ := Blk.kept r0 kq
  clear b0 r0 s0 kk k2 k3 o4 a3 kq l0
  obtain ⟨y0, y1, y2, y3, y4, y5, y6, y7⟩ := ask_cells a4
  have c6 : _ = some (Value.int .i64 e.bits) := b4.cell 6
  have c7 : _ = some (Value.int .i64 e.host) := b4.cell 7
  have p1 := P1
  unfold Hid at p1
  have q1 := Q1
  unfold Hid at q1
  have q2 := Q2
  unfold Hid at q2
  go_upto_region 4 with fail
  go_upto_region 5 with (go_at_call 45; refine (rmay_of _ _ _ _ _ _).mono ?_; rintro r wy ⟨rfl, hwy⟩; rw [hwy, q2]; clear hwy wy)
  clear c6 c7 y0 y1 y2 y3 y4 y5 y6 y7 a4
  obtain ⟨g0, g1⟩ := hg
  have m0 : 0 ≤ at_ % 256 := by omega
  have m1 : at_ % 256 < 256 := by omega
  have e1 : IntKind.u64.wrap e.guest = e.guest := by rw [IntKind.wrap_u64]; omega
  have e2 : IntKind.u64.wrap (e.guest * 256) = e.guest * 256 := by rw [IntKind.wrap_u64]; omega
  have e3 : bits .and .u64 at_ 255 = at_ % 256 := u_low at_ 8 (by omega) 255 rfl
  have e4 := or_8 (a := e.guest) (b := at_ % 256) g0 (by omega) m0 m1
  have e5 : (e.guest * 256 + at_ % 256).tdiv 4 = (e.guest * 256 + at_ % 256) / 4 := Int.tdiv_eq_ediv_of_nonneg (by omega)
  have e6 : IntKind.u64.wrap ((e.guest * 256 + at_ % 256) / 4) = (e.guest * 256 + at_ % 256) / 4 := by rw [IntKind.wrap_u64]; omega
  have c8 : _ = some (Value.int .i64 e.guest) := b4.cell 8
  refine wp_region_held_drew (S := fun w2 => Only (fun i => i = w.heap.size + 1 + 1) w4.drew w2) (by kernel_rfl) (Only.refl _ _) (fun hHeld => ?_)
  refine wpAnyH_take (i := 0) (v := ?_) rfl (by kernel_rfl) (by kernel_rfl) (by kernel_rfl) (fun _ _ _ h => h) (Or.inl ⟨by rfl, ?_⟩) hHeld ?_
  rotate_left
  · intro w2 hSw
    go_simp
    all_goals rfl
  try simp only [Act.put, List.getElem_toArray, List.getElem_cons_zero, List.setIfInBounds_toArray, List.set_cons_zero, List.set_cons_succ]
  refine wpAnyH_take (i := 2) (v := ?_) rfl (by kernel_rfl) (by kernel_rfl) (by kernel_rfl) (fun _ _ _ h => h) (Or.inl ⟨by rfl, ?_⟩) hHeld ?_
  rotate_left
  · intro w2 hSw
    go_simp
    all_goals rfl
  try simp only [Act.put, List.getElem_toArray, List.getElem_cons_zero, List.getElem_cons_succ, List.setIfInBounds_toArray, List.set_cons_zero, List.set_cons_succ]
  refine wpAnyH_take (i := 3) (v := ?_) rfl (by kernel_rfl) (by kernel_rfl) (by kernel_rfl) (fun _ _ _ h => h) (Or.inl ⟨by rfl, ?_⟩) hHeld ?_
  rotate_left
  · intro w2 hSw
    go_simp
    all_goals rfl
  try simp only [Act.put, List.getElem_toArray, List.getElem_cons_zero, List.getElem_cons_succ, List.setIfInBounds_toArray, List.set_cons_zero, List.set_cons_succ]
  refine wpAnyH_take (i := 4) (v := ?_) rfl (by kernel_rfl) (by kernel_rfl) (by kernel_rfl) (fun _ _ _ h => h) (Or.inl ⟨by rfl, ?_⟩) hHeld ?_
  rotate_left
  · intro w2 hSw
    go_simp
    all_goals rfl
  try simp only [Act.put, List.getElem_toArray, List.getElem_cons_zero, List.getElem_cons_succ, List.setIfInBounds_toArray, List.set_cons_zero, List.set_cons_succ]
  refine wpAnyH_take (i := 5) (v := .int .i64 e.guest) rfl (by kernel_rfl) (by kernel_rfl) (by kernel_rfl) (fun _ _ _ h => h) (Or.inl ⟨by rfl, ?_⟩) hHeld ?_
  · intro w2 hSw
    exact exec_load rfl rfl (run_loadVar_cell12a ((Blk.past (b4.kept (Only.drew (Only.refl _ w4))) hSw (by omega)).cell 8) rfl Tryd.underlying3)
  try simp only [Act.put, List.getElem_toArray, List.getElem_cons_zero, List.getElem_cons_succ, List.setIfInBounds_toArray, List.set_cons_zero, List.set_cons_succ]
  refine wpAnyH_take (i := 6) (v := ?_) rfl (by kernel_rfl) (by kernel_rfl) (by kernel_rfl) (fun _ _ _ h => h) (Or.inl ⟨by rfl, ?_⟩) hHeld ?_
  rotate_left
  · intro w2 hSw
    go_simp
    all_goals rfl
  try simp only [Act.put, List.getElem_toArray, List.getElem_cons_zero, List.getElem_cons_succ, List.setIfInBounds_toArray, List.set_cons_zero, List.set_cons_succ]
  refine wpAnyH_take (i := 7) (v := ?_) rfl (by kernel_rfl) (by kernel_rfl) (by kernel_rfl) (fun _ _ _ h => h) (Or.inl ⟨by rfl, ?_⟩) hHeld ?_
  rotate_left
  · intro w2 hSw
    go_simp
    all_goals rfl
  try simp only [Act.put, List.getElem_toArray, List.getElem_cons_zero, List.getElem_cons_succ, List.setIfInBounds_toArray, List.set_cons_zero, List.set_cons_succ]
  refine wpAnyH_take (i := 8) (v := ?_) rfl (by kernel_rfl) (by kernel_rfl) (by kernel_rfl) (fun _ _ _ h => h) (Or.inl ⟨by rfl, ?_⟩) hHeld ?_
  rotate_left
  · intro w2 hSw
    go_simp
    all_goals rfl
  try simp only [Act.put, List.getElem_toArray, List.getElem_cons_zero, List.getElem_cons_succ, List.setIfInBounds_toArray, List.set_cons_zero, List.set_cons_succ]
  refine wpAnyH_take (i := 9) (v := .int .u64 (at_ % 256)) rfl (by kernel_rfl) (by kernel_rfl) (by kernel_rfl) (fun _ _ _ h => h) (Or.inl ⟨by rfl, ?_⟩) hHeld ?_
  · intro w2 hSw
    go_simp
    all_goals rfl
  try simp only [Act.put, List.getElem_toArray, List.getElem_cons_zero, List.getElem_cons_succ, List.setIfInBounds_toArray, List.set_cons_zero, List.set_cons_succ]
  refine wpAnyH_take (i := 10) (v := .int .u64 (e.guest * 256 + at_ % 256)) rfl (by kernel_rfl) (by kernel_rfl) (by kernel_rfl) (fun _ _ _ h => h) (Or.inl ⟨by rfl, ?_⟩) hHeld ?_
  · intro w2 hSw
    go_simp
    all_goals rfl
  try simp only [Act.put, List.getElem_toArray, List.getElem_cons_zero, List.getElem_cons_succ, List.setIfInBounds_toArray, List.set_cons_zero, List.set_cons_succ]
  refine wpAnyH_take (i := 11) (v := .int .u64 ((e.guest * 256 + at_ % 256) / 4)) rfl (by kernel_rfl) (by kernel_rfl) (by kernel_rfl) (fun _ _ _ h => h) (Or.inl ⟨by rfl, ?_⟩) hHeld ?_
  · intro w2 hSw
    go_simp
    all_goals rfl
  try simp only [Act.put, List.getElem_toArray, List.getElem_cons_zero, List.getElem_cons_succ, List.setIfInBounds_toArray, List.set_cons_zero, List.set_cons_succ]
  refine wpAnyH_ready (rs := [1]) (by kernel_rfl) (by simp) ?_
  refine AllReadyH.cons rfl (fun K hK => ?_) AllReadyH.nil
  go_simp
  refine (rgf_of k hk _).mono ?_
  rintro r wn ⟨rfl, kn⟩
  go_simp
  have hR : Blk wn _ _ _ := Blk.kept (r4.kept (Only.drew (Only.refl _ w4))) kn
  refine hK.out _ _ (hHeld.then kn) (fun hHeld => ?_)
  clear hK K kn
  try simp only [Act.put, List.setIfInBounds_toArray, List.set_cons_zero, List.set_cons_succ]
  refine wpAnyH_take (i := 12) (v := .agg (fltA ⟨gfC k, at_, (e.guest * 256 + at_ % 256) / 4, v⟩).toArray) rfl (by kernel_rfl) (by kernel_rfl) (by kernel_rfl) (fun _ _ _ h => h) (Or.inl ⟨by rfl, ?_⟩) hHeld ?_
  · intro w2 hSw
    exact exec_build rfl _ rfl (fltA ⟨gfC k, at_, (e.guest * 256 + at_ % 256) / 4, v⟩).toArray (by kernel_rfl)
  try simp only [Act.put, List.getElem_toArray, List.getElem_cons_zero, List.getElem_cons_succ, List.setIfInBounds_toArray, List.set_cons_zero, List.set_cons_succ]
  refine wpAnyH_ready (rs := [13]) (by kernel_rfl) (by simp) ?_
  refine AllReadyH.cons rfl (fun K hK => ?_) AllReadyH.nil
  rw [if_pos (by rfl)]
  refine wp_store_go _ _ _ rfl (w.heap.size + 1 + 1) (fltA ⟨gfC k, at_, (e.guest * 256 + at_ % 256) / 4, v⟩).toArray rfl rfl hR (flt_size' _) ((flt_len _).trans (flt_len _).symm) (flt_ones' _) ?_
  intro w6 o6 r6
  have hH := hHeld.trans o6
  have kz : Kept w w6 := (k4.then (Only.drew (Only.refl _ w4))).new hH fun i hi => by omega
  refine hK.out _ _ hH (fun hHeld => ?_)
  clear hK K
  try simp only [Act.put, List.setIfInBounds_toArray]
  refine wpAnyH_take (i := 14) (v := ?_) rfl (by kernel_rfl) (by kernel_rfl) (by kernel_rfl) (fun _ _ _ h => h) (Or.inl ⟨by rfl, ?_⟩) hHeld ?_
  rotate_left
  · intro w2 hSw
    go_simp
    all_goals rfl
  try simp only [Act.put, List.getElem_toArray, List.getElem_cons_zero, List.getElem_cons_succ, List.setIfInBounds_toArray, List.set_cons_zero, List.set_cons_succ]
  refine wpAnyH_done (by kernel_rfl) ?_ _
  go_wp2_with fail
  refine bodyPost_ret (results_cell2 rfl _ _ _ _ _ rfl (load_list w6 _ _ (fltA ⟨gfC k, at_, (e.guest * 256 + at_ % 256) / 4, v⟩).toArray.toList _ r6.all Tryd.underlying38 rfl (flt_size' _))) rfl ⟨rfl, kz⟩
set_option maxRecDepth 100000 in
set_option maxHeartbeats 4000000 in
theorem lallow_guest_may {S : StM} (hS : S.Ok) (e : EntM) (at_ k level : Int) (v : Bool) (hk : k = 0 ∨ k = 1 ∨ k = 2) (P1 : Hid ((e.bits != 255) = true)) (P2 : Hid (mayE e.bits k (level == 0) (askS S level v).sum (askS S level v).mxr = true)) (Q1 : Hid ((e.host != 255) = true)) (Q2 : Hid (mayE e.host k true false false = false)) (hg : 0 ≤ e.guest ∧ e.guest < 256) (w : World) :
    Calls Tryd.prog 19 #[.agg (rowOf 65 (stF S)), .agg (entA e).toArray, .int .u64 at_, .int .i64 k, .int .i64 level, .bool v] w fun r w' => r = .returned (.tuple #[.agg (fltA ⟨gfC k, at_, (e.guest * 256 + at_ % 256) / 4, v⟩).toArray, .bool false]) ∧ Kept w w' := by
  have h0 := st_new w S
  have n1 : (w.alloc (.cells (rowOf 65 (stF S)) 27)).heap.size = w.heap.size + 1 := Go.Deep.nblk_alloc _ _
  have b0 := box2_has12 (w.alloc (.cells (rowOf 65 (stF S)) 27)) (entA e).toArray (fltA fltNone).toArray 36 38
  have r0 := alloc_last ((w.alloc (.cells (rowOf 65 (stF S)) 27)).alloc (.cells (entA e).toArray 36)) (fltA fltNone).toArray 38
  have n2 : ((w.alloc (.cells (rowOf 65 (stF S)) 27)).alloc (.cells (entA e).toArray 36)).heap.size = w.heap.size + 1 + 1 := by rw [Go.Deep.nblk_alloc, n1]
  rw [n1] at b0
  rw [n2] at r0
  have s0 : StAt (((w.alloc (.cells (rowOf 65 (stF S)) 27)).alloc (.cells (entA e).toArray 36)).alloc (.cells (fltA fltNone).toArray 38)) w.heap.size S := st_kept h0 (((Only.refl _ _).alloc _).alloc _)
  have kk : Kept w (((w.alloc (.cells (rowOf 65 (stF S)) 27)).alloc (.cells (entA e).toArray 36)).alloc (.cells (fltA fltNone).toArray 38)) := (((Only.refl _ w).alloc _).alloc _).alloc _
  clear h0 n1 n2
  go_enter Tryd.func19, Tryd.ntmps19
  go_upto_region 1 with (refine wpList_alloc_is rfl 38 rfl (fltA fltNone).toArray flt_zero' ?_)
  generalize (((w.alloc (.cells (rowOf 65 (stF S)) 27)).alloc (.cells (entA e).toArray 36)).alloc (.cells (fltA fltNone).toArray 38)) = w1 at b0 r0 s0 kk ⊢
  go_upto_region 2 with (first | (refine wpList_load_is (by rfl) 27 _ rfl rfl s0 _ Tryd.underlying27 rfl st_size ?_) | (go_at_call 14; refine (rask_any hS level v _).mono ?_; rintro r w2 ⟨rfl, k2⟩) | (refine wpList_alloc_go rfl 46 rfl (askA ⟨false, false, false, false, 0, 0, 0, 0⟩) ask_zero' ?_; intro ab w3 n3 k3 m3 a3) | (refine wpList_store_go rfl 46 _ _ rfl ab (askA (askS S level v)) rfl rfl a3 (ask_size _ _ _ _ _ _ _ _) ((ask_len _).trans (ask_len _).symm) (ask_ones _) ?_; intro w4 o4 a4))
  try simp only [Act.put, List.setIfInBounds_toArray, List.set_cons_zero, List.set_cons_succ]
  have l0 := kk.size
  have kq : Kept w1 w4 := (k2.then k3).new o4 fun i hi => by have := k2.size; omega
  have k4 := kk.then kq
  have b4 : Blk w4 _ _ _ := Blk.kept b0 kq
  have r4 : Blk w4 _ _ _ := Blk.kept r0 kq
  clear b0 r0 s0 kk k2 k3 o4 a3 kq l0
  obtain ⟨y0, y1, y2, y3, y4, y5, y6, y7⟩ := ask_cells a4
  have c6 : _ = some (Value.int .i64 e.bits) := b4.cell 6
  have c7 : _ = some (Value.int .i64 e.host) := b4.cell 7
  have p1 := P1
  unfold Hid at p1
  have q1 := Q1
  unfold Hid at q1
  have p2 := P2
  unfold Hid at p2
  have q2 := Q2
  unfold Hid at q2
  go_upto_region 4 with (go_at_call 45; refine (rmay_of _ _ _ _ _ _).mono ?_; rintro r wy ⟨rfl, hwy⟩; rw [hwy, p2]; clear hwy wy)
  go_upto_region 5 with (go_at_call 45; refine (rmay_of _ _ _ _ _ _).mono ?_; rintro r wy ⟨rfl, hwy⟩; rw [hwy, q2]; clear hwy wy)
  clear c6 c7 y0 y1 y2 y3 y4 y5 y6 y7 a4
  obtain ⟨g0, g1⟩ := hg
  have m0 : 0 ≤ at_ % 256 := by omega
  have m1 : at_ % 256 < 256 := by omega
  have e1 : IntKind.u64.wrap e.guest = e.guest := by rw [IntKind.wrap_u64]; omega
  have e2 : IntKind.u64.wrap (e.guest * 256) = e.guest * 256 := by rw [IntKind.wrap_u64]; omega
  have e3 : bits .and .u64 at_ 255 = at_ % 256 := u_low at_ 8 (by omega) 255 rfl
  have e4 := or_8 (a := e.guest) (b := at_ % 256) g0 (by omega) m0 m1
  have e5 : (e.guest * 256 + at_ % 256).tdiv 4 = (e.guest * 256 + at_ % 256) / 4 := Int.tdiv_eq_ediv_of_nonneg (by omega)
  have e6 : IntKind.u64.wrap ((e.guest * 256 + at_ % 256) / 4) = (e.guest * 256 + at_ % 256) / 4 := by rw [IntKind.wrap_u64]; omega
  have c8 : _ = some (Value.int .i64 e.guest) := b4.cell 8
  refine wp_region_held_drew (S := fun w2 => Only (fun i => i = w.heap.size + 1 + 1) w4.drew w2) (by kernel_rfl) (Only.refl _ _) (fun hHeld => ?_)
  refine wpAnyH_take (i := 0) (v := ?_) rfl (by kernel_rfl) (by kernel_rfl) (by kernel_rfl) (fun _ _ _ h => h) (Or.inl ⟨by rfl, ?_⟩) hHeld ?_
  rotate_left
  · intro w2 hSw
    go_simp
    all_goals rfl
  try simp only [Act.put, List.getElem_toArray, List.getElem_cons_zero, List.setIfInBounds_toArray, List.set_cons_zero, List.set_cons_succ]
  refine wpAnyH_take (i := 2) (v := ?_) rfl (by kernel_rfl) (by kernel_rfl) (by kernel_rfl) (fun _ _ _ h => h) (Or.inl ⟨by rfl, ?_⟩) hHeld ?_
  rotate_left
  · intro w2 hSw
    go_simp
    all_goals rfl
  try simp only [Act.put, List.getElem_toArray, List.getElem_cons_zero, List.getElem_cons_succ, List.setIfInBounds_toArray, List.set_cons_zero, List.set_cons_succ]
  refine wpAnyH_take (i := 3) (v := ?_) rfl (by kernel_rfl) (by kernel_rfl) (by kernel_rfl) (fun _ _ _ h => h) (Or.inl ⟨by rfl, ?_⟩) hHeld ?_
  rotate_left
  · intro w2 hSw
    go_simp
    all_goals rfl
  try simp only [Act.put, List.getElem_toArray, List.getElem_cons_zero, List.getElem_cons_succ, List.setIfInBounds_toArray, List.set_cons_zero, List.set_cons_succ]
  refine wpAnyH_take (i := 4) (v := ?_) rfl (by kernel_rfl) (by kernel_rfl) (by kernel_rfl) (fun _ _ _ h => h) (Or.inl ⟨by rfl, ?_⟩) hHeld ?_
  rotate_left
  · intro w2 hSw
    go_simp
    all_goals rfl
  try simp only [Act.put, List.getElem_toArray, List.getElem_cons_zero, List.getElem_cons_succ, List.setIfInBounds_toArray, List.set_cons_zero, List.set_cons_succ]
  refine wpAnyH_take (i := 5) (v := .int .i64 e.guest) rfl (by kernel_rfl) (by kernel_rfl) (by kernel_rfl) (fun _ _ _ h => h) (Or.inl ⟨by rfl, ?_⟩) hHeld ?_
  · intro w2 hSw
    exact exec_load rfl rfl (run_loadVar_cell12a ((Blk.past (b4.kept (Only.drew (Only.refl _ w4))) hSw (by omega)).cell 8) rfl Tryd.underlying3)
  try simp only [Act.put, List.getElem_toArray, List.getElem_cons_zero, List.getElem_cons_succ, List.setIfInBounds_toArray, List.set_cons_zero, List.set_cons_succ]
  refine wpAnyH_take (i := 6) (v := ?_) rfl (by kernel_rfl) (by kernel_rfl) (by kernel_rfl) (fun _ _ _ h => h) (Or.inl ⟨by rfl, ?_⟩) hHeld ?_
  rotate_left
  · intro w2 hSw
    go_simp
    all_goals rfl
  try simp only [Act.put, List.getElem_toArray, List.getElem_cons_zero, List.getElem_cons_succ, List.setIfInBounds_toArray, List.set_cons_zero, List.set_cons_succ]
  refine wpAnyH_take (i := 7) (v := ?_) rfl (by kernel_rfl) (by kernel_rfl) (by kernel_rfl) (fun _ _ _ h => h) (Or.inl ⟨by rfl, ?_⟩) hHeld ?_
  rotate_left
  · intro w2 hSw
    go_simp
    all_goals rfl
  try simp only [Act.put, List.getElem_toArray, List.getElem_cons_zero, List.getElem_cons_succ, List.setIfInBounds_toArray, List.set_cons_zero, List.set_cons_succ]
  refine wpAnyH_take (i := 8) (v := ?_) rfl (by kernel_rfl) (by kernel_rfl) (by kernel_rfl) (fun _ _ _ h => h) (Or.inl ⟨by rfl, ?_⟩) hHeld ?_
  rotate_left
  · intro w2 hSw
    go_simp
    all_goals rfl
  try simp only [Act.put, List.getElem_toArray, List.getElem_cons_zero, List.getElem_cons_succ, List.setIfInBounds_toArray, List.set_cons_zero, List.set_cons_succ]
  refine wpAnyH_take (i := 9) (v := .int .u64 (at_ % 256)) rfl (by kernel_rfl) (by kernel_rfl) (by kernel_rfl) (fun _ _ _ h => h) (Or.inl ⟨by rfl, ?_⟩) hHeld ?_
  · intro w2 hSw
    go_simp
    all_goals rfl
  try simp only [Act.put, List.getElem_toArray, List.getElem_cons_zero, List.getElem_cons_succ, List.setIfInBounds_toArray, List.set_cons_zero, List.set_cons_succ]
  refine wpAnyH_take (i := 10) (v := .int .u64 (e.guest * 256 + at_ % 256)) rfl (by kernel_rfl) (by kernel_rfl) (by kernel_rfl) (fun _ _ _ h => h) (Or.inl ⟨by rfl, ?_⟩) hHeld ?_
  · intro w2 hSw
    go_simp
    all_goals rfl
  try simp only [Act.put, List.getElem_toArray, List.getElem_cons_zero, List.getElem_cons_succ, List.setIfInBounds_toArray, List.set_cons_zero, List.set_cons_succ]
  refine wpAnyH_take (i := 11) (v := .int .u64 ((e.guest * 256 + at_ % 256) / 4)) rfl (by kernel_rfl) (by kernel_rfl) (by kernel_rfl) (fun _ _ _ h => h) (Or.inl ⟨by rfl, ?_⟩) hHeld ?_
  · intro w2 hSw
    go_simp
    all_goals rfl
  try simp only [Act.put, List.getElem_toArray, List.getElem_cons_zero, List.getElem_cons_succ, List.setIfInBounds_toArray, List.set_cons_zero, List.set_cons_succ]
  refine wpAnyH_ready (rs := [1]) (by kernel_rfl) (by simp) ?_
  refine AllReadyH.cons rfl (fun K hK => ?_) AllReadyH.nil
  go_simp
  refine (rgf_of k hk _).mono ?_
  rintro r wn ⟨rfl, kn⟩
  go_simp
  have hR : Blk wn _ _ _ := Blk.kept (r4.kept (Only.drew (Only.refl _ w4))) kn
  refine hK.out _ _ (hHeld.then kn) (fun hHeld => ?_)
  clear hK K kn
  try simp only [Act.put, List.setIfInBounds_toArray, List.set_cons_zero, List.set_cons_succ]
  refine wpAnyH_take (i := 12) (v := .agg (fltA ⟨gfC k, at_, (e.guest * 256 + at_ % 256) / 4, v⟩).toArray) rfl (by kernel_rfl) (by kernel_rfl) (by kernel_rfl) (fun _ _ _ h => h) (Or.inl ⟨by rfl, ?_⟩) hHeld ?_
  · intro w2 hSw
    exact exec_build rfl _ rfl (fltA ⟨gfC k, at_, (e.guest * 256 + at_ % 256) / 4, v⟩).toArray (by kernel_rfl)
  try simp only [Act.put, List.getElem_toArray, List.getElem_cons_zero, List.getElem_cons_succ, List.setIfInBounds_toArray, List.set_cons_zero, List.set_cons_succ]
  refine wpAnyH_ready (rs := [13]) (by kernel_rfl) (by simp) ?_
  refine AllReadyH.cons rfl (fun K hK => ?_) AllReadyH.nil
  rw [if_pos (by rfl)]
  refine wp_store_go _ _ _ rfl (w.heap.size + 1 + 1) (fltA ⟨gfC k, at_, (e.guest * 256 + at_ % 256) / 4, v⟩).toArray rfl rfl hR (flt_size' _) ((flt_len _).trans (flt_len _).symm) (flt_ones' _) ?_
  intro w6 o6 r6
  have hH := hHeld.trans o6
  have kz : Kept w w6 := (k4.then (Only.drew (Only.refl _ w4))).new hH fun i hi => by omega
  refine hK.out _ _ hH (fun hHeld => ?_)
  clear hK K
  try simp only [Act.put, List.setIfInBounds_toArray]
  refine wpAnyH_take (i := 14) (v := ?_) rfl (by kernel_rfl) (by kernel_rfl) (by kernel_rfl) (fun _ _ _ h => h) (Or.inl ⟨by rfl, ?_⟩) hHeld ?_
  rotate_left
  · intro w2 hSw
    go_simp
    all_goals rfl
  try simp only [Act.put, List.getElem_toArray, List.getElem_cons_zero, List.getElem_cons_succ, List.setIfInBounds_toArray, List.set_cons_zero, List.set_cons_succ]
  refine wpAnyH_done (by kernel_rfl) ?_ _
  go_wp2_with fail
  refine bodyPost_ret (results_cell2 rfl _ _ _ _ _ rfl (load_list w6 _ _ (fltA ⟨gfC k, at_, (e.guest * 256 + at_ % 256) / 4, v⟩).toArray.toList _ r6.all Tryd.underlying38 rfl (flt_size' _))) rfl ⟨rfl, kz⟩
theorem lallow_any {S : StM} (hS : S.Ok) (e : EntM) (he : 0 ≤ e.guest ∧ e.guest < 256) (at_ k level : Int) (v : Bool) (hk : k = 0 ∨ k = 1 ∨ k = 2) (w : World) :
    Calls Tryd.prog 19 #[.agg (rowOf 65 (stF S)), .agg (entA e).toArray, .int .u64 at_, .int .i64 k, .int .i64 level, .bool v] w fun r w' => r = .returned (.tuple #[.agg (fltA (alwS S e at_ k level v).f).toArray, .bool (alwS S e at_ k level v).ok]) ∧ Kept w w' := by
  unfold alwS
  by_cases hb : e.bits = 255
  · have p1 : (e.bits != 255) = false := bne_eq_false_iff_eq.2 hb
    rw [if_neg (fun z => z.1 hb)]
    by_cases hh : e.host = 255
    · have q1 : (e.host != 255) = false := bne_eq_false_iff_eq.2 hh
      rw [if_neg (fun z => z.1 hh)]
      exact lallow_ok_255_255 hS e at_ k level v hk p1 q1 w
    · have q1 : (e.host != 255) = true := bne_iff_ne.2 hh
      cases q2 : mayE e.host k true false false
      · rw [if_pos ⟨hh, rfl⟩]
        exact lallow_guest_255 hS e at_ k level v hk p1 q1 q2 he w
      · rw [if_neg (fun z => by cases z.2)]
        exact lallow_ok_255_may hS e at_ k level v hk p1 q1 q2 w
  · have p1 : (e.bits != 255) = true := bne_iff_ne.2 hb
    cases p2 : mayE e.bits k (level == 0) (askS S level v).sum (askS S level v).mxr
    · rw [if_pos ⟨hb, rfl⟩]
      exact lallow_page hS e at_ k level v hk p1 p2 w
    · rw [if_neg (fun z => by cases z.2)]
      by_cases hh : e.host = 255
      · have q1 : (e.host != 255) = false := bne_eq_false_iff_eq.2 hh
        rw [if_neg (fun z => z.1 hh)]
        exact lallow_ok_may_255 hS e at_ k level v hk p1 p2 q1 w
      · have q1 : (e.host != 255) = true := bne_iff_ne.2 hh
        cases q2 : mayE e.host k true false false
        · rw [if_pos ⟨hh, rfl⟩]
          exact lallow_guest_may hS e at_ k level v hk p1 p2 q1 q2 he w
        · rw [if_neg (fun z => by cases z.2)]
          exact lallow_ok_may_may hS e at_ k level v hk p1 p2 q1 q2 w
end Go.Proofs.YtpplclenokfpeaaDoor
