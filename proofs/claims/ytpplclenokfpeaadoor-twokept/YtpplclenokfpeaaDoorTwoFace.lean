/-
  The examples that every statement of layer 12 asks first (known) hold.
-/
import Derived.Test.YtpplclenokfpeaaDoorTTwo
import Derived.Test.YtpplclenokfpeaaDoorRefAsk
import Derived.Test.YtpplclenokfpeaaDoorMemFace
import Derived.BigRegion
namespace Go.Proofs.YtpplclenokfpeaaDoor
open Go.RowKit
def zF12 (i : Nat) : Value := stF ⟨fun _ => 0, 0, 0, false, fun _ => 0, 0⟩ i
theorem st_zero12 : (Tryd.prog.info? 27).map (fun i => i.zero.map (·.cells)) = some (some (rowOf 65 zF12)) := by kernel_rfl
def kS0 : StM := ⟨fun _ => 0, 0, 1, false, fun _ => 0, 0⟩
def kS1 : StM := kS0.setC 15 9223372036854775809
theorem kS0_ok : kS0.Ok := ⟨fun _ _ => by unfold U kS0; simp, by unfold U kS0; simp, by unfold I64 kS0; simp, fun _ _ => by unfold U kS0; simp, by unfold U kS0; simp⟩
theorem kS1_ok : kS1.Ok := kS0_ok.setC 15 (by unfold U; omega)
def kE : EntM := ⟨true, false, 18, 0, 0, 18, 255, 255, 18⟩
theorem kE_ok : kE.Ok := ⟨by decide, by decide, by decide, by decide, by decide, by decide, by decide⟩
def kF : FltM := ⟨13, 4660, 0, false⟩
def kA : AskM := ⟨true, false, false, false, 0, 0, 1, 0⟩
theorem x1 : trS (fun _ => 0) kS0 4660 1 1 false false = ⟨4660, kE, fltNone, true⟩ := by kernel_rfl
theorem x2 : trS (fun _ => 0) kS1 4660 1 1 false false = ⟨0, entNone, kF, false⟩ := by kernel_rfl
theorem x3 : askS kS1 1 false = kA := by kernel_rfl
theorem x4 : (gstS (fun _ => 0) (askS kS1 1 true) 119 1 false).p = 119 := by kernel_rfl
theorem x5 : (gstS (fun _ => 0) (askS kS1 1 true) 119 1 false).c = 0 := by kernel_rfl
theorem x6 : alwS kS1 kE 4660 1 1 false = ⟨fltNone, true⟩ := by kernel_rfl
theorem st_kept {w w' : World} {b : Nat} {S : StM} (h : StAt w b S) (g : Kept w w') : StAt w' b S := World.rowIs.of_block h (g.same b (World.rowIs.lt h) id)
set_option maxRecDepth 10000 in
set_option maxHeartbeats 4000000 in
theorem known12_any {W w : World} (hT : Tab12 W) (k : Kept W w) :
    Calls Tryd.prog 8 #[] w fun e w' => e = .returned (.bool true) ∧ Kept W w' := by
  have ua : U 4660 := by unfold U; omega
  have ub : U 119 := by unfold U; omega
  go_enter Tryd.func8, Tryd.ntmps8
  go_wp2_with fail
  refine (new_from k).mono ?_
  rintro e w1 ⟨p, q, rfl, s1⟩
  have h1 := st_new w1 kS0
  have s2 := s1.kept ((Only.refl _ w1).alloc (.cells (rowOf 65 (stF kS0)) 27))
  have hsb := s1.k.size
  have hpq := s1.m.lt
  clear s1
  go_upto_region 3 with (first | refine wpList_built rfl 27 _ rfl (rowOf 65 (stF kS0)) (by kernel_rfl) ?_ | refine wpList_alloc_is rfl 27 rfl (rowOf 65 zF12) st_zero12 ?_ | (refine wpList_store_is rfl 27 _ _ rfl rfl rfl (row_alloc _ 65 zF12 _) st_size (fun i _ => stF_one _ i) ?_; rw [World.setRow_alloc_new]))
  simp only [Act.put]
  generalize (w1.alloc (.cells (rowOf 65 (stF kS0)) 27)) = w2 at h1 s2 ⊢
  generalize w1.heap.size = sb at h1 hsb hpq ⊢
  have l1 := World.rowIs.lt h1
  go_upto_region 4 with (first | (refine wpList_load_is (by rfl) 27 _ rfl rfl h1 _ Tryd.underlying27 rfl st_size ?_) | (go_at_call 12; refine (ttr_any (hT.kept s2.k) s2.m kS0_ok 4660 1 1 false (.inr (.inl rfl)) ua).mono ?_; rintro e w3 ⟨rfl, k3⟩; rw [x1]) | (refine wpList_alloc_go rfl 36 rfl (entA entNone).toArray ent_zero' ?_; intro eb4 w4a n4a k4a m4a e4a) | (refine wpList_alloc_go rfl 38 rfl (fltA fltNone).toArray flt_zero' ?_; intro fb4 w4b n4b k4b m4b f4b) | (refine wpList_store_go rfl 36 _ _ rfl eb4 (entA kE).toArray rfl rfl (k4b.block e4a id) (ent_size' _) ((ent_len _).trans (ent_len _).symm) (ent_ones' _) ?_; intro w4c o4c e4c) | (refine wpList_store_go rfl 38 _ _ rfl fb4 (fltA fltNone).toArray rfl rfl (o4c.block f4b (by omega)) (flt_size' _) ((flt_len _).trans (flt_len _).symm) (flt_ones' _) ?_; intro w4d o4d f4d))
  have kk : Kept w2 w4d := (((k3.then k4a).then k4b).new o4c fun i hi => by have := k3.size; omega).new o4d fun i hi => by have := k3.size; omega
  have h5 : StAt w4d sb kS0 := World.rowIs.of_block h1 (kk.same _ l1 id)
  have s5 := s2.kept kk
  have e5 : Blk w4d eb4 _ _ := e4c.past o4d (by omega)
  have l5 := e5.lt
  have hn : eb4 ≠ sb := by have := k3.size; omega
  clear h1 s2 k3 k4a k4b o4c o4d f4b e4a e4c f4d kk
  have v5 := h5.cell (i := 50) (by omega)
  have u5 := h5.frozen 50
  have h6 : StAt (w4d.setCell ⟨sb, 50, none⟩ (.int .u64 9223372036854775809)) sb kS1 := h5.set (i := 15) (by omega) 9223372036854775809
  have o6 := Only.setCell (Only.refl (fun i => i = sb) w4d) (x := ⟨sb, 50, none⟩) rfl (.int .u64 9223372036854775809)
  have s6 : St W (w4d.setCell ⟨sb, 50, none⟩ (.int .u64 9223372036854775809)) p q (fun _ => 0) := ⟨s5.m.carry o6 (by omega) (by omega), s5.k.new o6 fun i hi => by omega, s5.hp, s5.hq⟩
  have e6 := e5.past o6 hn
  go_upto_region 5 with fail
  clear h5 s5 e5 v5 u5 o6
  generalize w4d.setCell ⟨sb, 50, none⟩ (.int .u64 9223372036854775809) = w5 at h6 s6 e6 ⊢
  have l6 := World.rowIs.lt h6
  have l5 := e6.lt
  go_upto_region 6 with (first | (refine wpList_load_is (by rfl) 27 _ rfl rfl h6 _ Tryd.underlying27 rfl st_size ?_) | (go_at_call 12; refine (ttr_any (hT.kept s6.k) s6.m kS1_ok 4660 1 1 false (.inr (.inl rfl)) ua).mono ?_; rintro e w6 ⟨rfl, k6⟩; rw [x2]) | (refine wpList_alloc_go rfl 36 rfl (entA entNone).toArray ent_zero' ?_; intro eb6 w6a n6a k6a m6a e6a) | (refine wpList_alloc_go rfl 38 rfl (fltA fltNone).toArray flt_zero' ?_; intro fb6 w6b n6b k6b m6b f6b) | (refine wpList_store_go rfl 36 _ _ rfl eb6 (entA entNone).toArray rfl rfl (k6b.block e6a id) (ent_size' _) ((ent_len _).trans (ent_len _).symm) (ent_ones' _) ?_; intro w6c o6c e6c) | (refine wpList_store_go rfl 38 _ _ rfl fb6 (fltA kF).toArray rfl rfl (o6c.block f6b (by omega)) (flt_size' _) ((flt_len _).trans (flt_len _).symm) (flt_ones' _) ?_; intro w6d o6d f6d))
  have kk : Kept w5 w6d := (((k6.then k6a).then k6b).new o6c fun i hi => by have := k6.size; omega).new o6d fun i hi => by have := k6.size; omega
  have h7 : StAt w6d sb kS1 := World.rowIs.of_block h6 (kk.same _ l6 id)
  have s7 := s6.kept kk
  have e7 := e6.kept kk
  have f7 : Blk w6d fb6 _ _ := f6d
  clear h6 s6 e6 k6 k6a k6b o6c o6d f6b e6a e6c f6d kk
  go_upto_region 7 with (first | (refine wpList_load_is (by rfl) 27 _ rfl rfl h7 _ Tryd.underlying27 rfl st_size ?_) | (go_at_call 17; refine (task_any (hT.kept s7.k) kS1_ok 1 false).mono ?_; rintro e w7 ⟨rfl, k7⟩; rw [x3]) | (refine wpList_alloc_go rfl 46 rfl (askA ⟨false, false, false, false, 0, 0, 0, 0⟩) ask_zero' ?_; intro ab w7a n7a k7a m7a a7a) | (refine wpList_store_go rfl 46 _ _ rfl ab (askA kA) rfl rfl a7a (ask_size _ _ _ _ _ _ _ _) ((ask_len _).trans (ask_len _).symm) (ask_ones _) ?_; intro w7b o7b a7b))
  have kk : Kept w6d w7b := (k7.then k7a).new o7b fun i hi => by have := k7.size; omega
  have h8 := st_kept h7 kk
  have s8 := s7.kept kk
  have e8 := e7.kept kk
  have f8 := f7.kept kk
  clear h7 s7 e7 f7 k7 k7a o7b kk a7a
  go_upto_region 8 with (first | (refine wpList_load_is (by rfl) 27 _ rfl rfl h8 _ Tryd.underlying27 rfl st_size ?_) | (go_at_call 15; refine (tguest_any (hT.kept s8.k) s8.m kS1_ok 119 1 (.inr (.inl rfl)) ub).mono ?_; rintro e w8 ⟨rfl, k8⟩; rw [x4, x5]))
  have h9 := st_kept h8 k8
  have s9 := s8.kept k8
  have e9 := e8.kept k8
  have f9 := f8.kept k8
  have a9 := a7b.kept k8
  clear h8 s8 e8 f8 k8 a7b
  go_upto_region 9 with (first | (refine wpList_load_is (by rfl) 27 _ rfl rfl h9 _ Tryd.underlying27 rfl st_size ?_) | (refine wpList_load_blk (by rfl) 36 _ rfl eb4 rfl e9 _ Tryd.underlying36 rfl (ent_size' _) ?_) | (go_at_call 18; refine (tallow_any (hT.kept s9.k) kS1_ok kE kE_ok 4660 1 1 false (.inr (.inl rfl)) ua).mono ?_; rintro e w9 ⟨rfl, k9⟩; rw [x6]) | (refine wpList_alloc_go rfl 38 rfl (fltA fltNone).toArray flt_zero' ?_; intro gb9 w9a n9a k9a m9a g9a) | (refine wpList_store_go rfl 38 _ _ rfl gb9 (fltA fltNone).toArray rfl rfl g9a (flt_size' _) ((flt_len _).trans (flt_len _).symm) (flt_ones' _) ?_; intro w9b o9b g9b))
  have kk : Kept _ w9b := (k9.then k9a).new o9b fun i hi => by have := k9.size; omega
  have s10 := s9.kept kk
  have e10 := e9.kept kk
  have f10 := f9.kept kk
  have a10 := a9.kept kk
  clear h9 s9 e9 f9 a9 k9 k9a o9b kk g9a g9b
  have c6 : _ = some (Value.int .i64 255) := e10.cell 6
  have d0 : _ = some (Value.bool true) := a10.cell 0
  have d1 : _ = some (Value.bool false) := a10.cell 1
  have d6 : _ = some (Value.int .i64 1) := a10.cell 6
  have hq := eq_flt kF
  go_wp2_with (first | (refine wpList_load_blk (by rfl) 38 _ rfl fb6 rfl f10 _ Tryd.underlying38 rfl (flt_size' _) ?_) | (refine wpList_built_is (by rfl) 38 _ rfl (fltA kF).toArray (by kernel_rfl) ?_))
  go_ret
  exact ⟨rfl, s10.k⟩
end Go.Proofs.YtpplclenokfpeaaDoor
