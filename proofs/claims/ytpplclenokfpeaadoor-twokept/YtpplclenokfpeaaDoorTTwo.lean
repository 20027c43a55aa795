/-
  What package two's Translate and Allowed answer, in the document's words: walked whole, for every argument.
-/
import Derived.Test.YtpplclenokfpeaaDoorTTwoG
import Derived.Test.YtpplclenokfpeaaDoorRefCsr4
namespace Go.Proofs.YtpplclenokfpeaaDoor
open Go.RowKit
def onA (x y : Bool) : Array Value := #[.bool x, .bool y]
theorem on_zero' : (Tryd.prog.info? 72).map (fun i => i.zero.map (·.cells)) = some (some (onA false false)) := by kernel_rfl
theorem on_size' (x y : Bool) : (Tryd.prog.info? 72).map (·.size) = some (onA x y).size := by
  rw [show (onA x y).size = 2 from rfl]
  kernel_rfl
theorem on_ones' (x y : Bool) : (onA x y).all (·.oneCell') = true := by simp [onA, Value.oneCell']
theorem on_len (x y : Bool) : (onA x y).size = 2 := rfl
theorem eq_on (x y z u : Bool) (w : World) : (binOp .eql 72 (.agg (onA x y)) (.agg (onA z u))).run Tryd.prog w = Result.ok (.bool (x == z && y == u)) w := by
  unfold onA
  cases x <;> cases y <;> cases z <;> cases u <;> simp [go_sem]
theorem way_zero' : (Tryd.prog.info? 75).map (fun i => i.zero.map (·.cells)) = some (some (wyA (.pointer none) ask0 0 0 false 0 0 0 0)) := by kernel_rfl
theorem way_size' (m : Value) (a : AskM) (at_ k : Int) (user : Bool) (place lies bts host : Int) : (Tryd.prog.info? 75).map (·.size) = some (wyA m a at_ k user place lies bts host).size := by
  rw [show (wyA m a at_ k user place lies bts host).size = 16 from rfl]
  kernel_rfl
theorem way_ones' (a : AskM) (p : Nat) (at_ k : Int) (user : Bool) (place lies bts : Int) : (wyA (.pointer (some ⟨p, 0, none⟩)) a at_ k user place lies bts 0).all (·.oneCell') = true := by simp [wyA, Value.oneCell']
theorem tab_lt {w : World} (hT : Tab12 w) : 0 < w.heap.size := by
  obtain ⟨v, hv⟩ : ∃ v, riL[0]? = some v := ⟨_, List.getElem?_eq_getElem (by rw [ri_len]; omega)⟩
  have h := hT.r 0 v hv
  apply Classical.byContradiction
  intro hn
  rw [World.cell?] at h
  simp [Array.getElem?_eq_none (show w.heap.size ≤ 0 by omega)] at h
theorem results_tr {fn : Func} {t p q u : Tmp} {T1 T2 : TypeId} (h : fn.results = #[.tmp t, .cell p T1, .cell q T2, .tmp u]) (tmps : Array Value) (P : Program) (w : World) (b1 b2 : Nat) (c1 c2 : Array Value)
    (h1 : tmps.getD p undef = .pointer (some ⟨b1, 0, none⟩)) (h2 : tmps.getD q undef = .pointer (some ⟨b2, 0, none⟩)) (l1 : (loadVar T1 ⟨b1, 0, none⟩).run P w = .ok (.agg c1) w) (l2 : (loadVar T2 ⟨b2, 0, none⟩).run P w = .ok (.agg c2) w) :
    (results fn tmps).run P w = .ok (.tuple #[tmps.getD t undef, .agg c1, .agg c2, tmps.getD u undef]) w := by
  have h1' : tmps[p]?.getD undef = .pointer (some ⟨b1, 0, none⟩) := by rw [← Array.getD_eq_getD_getElem?]; exact h1
  have h2' : tmps[q]?.getD undef = .pointer (some ⟨b2, 0, none⟩) := by rw [← Array.getD_eq_getD_getElem?]; exact h2
  simp [results, h, h1', h2', asAddr, l1, l2]
/-- The box of a state with an entry's and a fault's room behind it. -/
structure TrR (w w1 : World) (S : StM) (e : EntM) (f : FltM) : Prop where
  s : StAt w1 w.heap.size S
  e : Blk w1 (w.heap.size + 1) 36 (entA e).toArray
  f : Blk w1 (w.heap.size + 1 + 1) 38 (fltA f).toArray
  k : Kept w w1
theorem trR_new (w : World) (S : StM) : TrR w (((w.alloc (.cells (rowOf 65 (stF S)) 27)).alloc (.cells (entA entNone).toArray 36)).alloc (.cells (fltA fltNone).toArray 38)) S entNone fltNone := by
  have h0 := st_new w S
  have n1 : (w.alloc (.cells (rowOf 65 (stF S)) 27)).heap.size = w.heap.size + 1 := Go.Deep.nblk_alloc _ _
  have e0 := alloc_last (w.alloc (.cells (rowOf 65 (stF S)) 27)) (entA entNone).toArray 36
  have n2 : ((w.alloc (.cells (rowOf 65 (stF S)) 27)).alloc (.cells (entA entNone).toArray 36)).heap.size = w.heap.size + 1 + 1 := by rw [Go.Deep.nblk_alloc, n1]
  have f0 := alloc_last ((w.alloc (.cells (rowOf 65 (stF S)) 27)).alloc (.cells (entA entNone).toArray 36)) (fltA fltNone).toArray 38
  rw [n1] at e0
  rw [n2] at f0
  have k1 : Kept (w.alloc (.cells (rowOf 65 (stF S)) 27)) (((w.alloc (.cells (rowOf 65 (stF S)) 27)).alloc (.cells (entA entNone).toArray 36)).alloc (.cells (fltA fltNone).toArray 38)) := ((Only.refl _ _).alloc _).alloc _
  exact ⟨World.rowIs.of_block h0 (k1.same _ (World.rowIs.lt h0) id), Blk.kept e0 ((Only.refl _ _).alloc _), f0, (((Only.refl _ w).alloc _).alloc _).alloc _⟩
theorem TrR.past {w w1 w2 : World} {S : StM} {e : EntM} {f : FltM} {T : Nat → Prop} (h : TrR w w1 S e f) (g : Only T w1 w2) (ht : ∀ i, T i → w.heap.size + 3 ≤ i) : TrR w w2 S e f :=
  ⟨World.rowIs.of_block h.s (g.same _ (World.rowIs.lt h.s) fun x => by have := ht _ x; omega), g.block h.e fun x => by have := ht _ x; omega, g.block h.f fun x => by have := ht _ x; omega, h.k.new g fun i x => by have := ht _ x; omega⟩
theorem TrR.kept {w w1 w2 : World} {S : StM} {e : EntM} {f : FltM} (h : TrR w w1 S e f) (g : Kept w1 w2) : TrR w w2 S e f := h.past g fun _ x => x.elim
theorem TrR.lt {w w1 : World} {S : StM} {e : EntM} {f : FltM} (h : TrR w w1 S e f) : w.heap.size + 3 ≤ w1.heap.size := Blk.lt h.f
/-- Both rooms stored. -/
theorem TrR.done {w w1 w2 w3 : World} {S : StM} {e : EntM} {f : FltM} {e2 : EntM} {f2 : FltM} (h : TrR w w1 S e f) (o1 : Only (fun i => i = w.heap.size + 1) w1 w2) (h1 : Blk w2 (w.heap.size + 1) 36 (entA e2).toArray) (o2 : Only (fun i => i = w.heap.size + 1 + 1) w2 w3) (h2 : Blk w3 (w.heap.size + 1 + 1) 38 (fltA f2).toArray) : TrR w w3 S e2 f2 :=
  have ks : Kept w w3 := (h.k.new o1 fun i hi => by omega).new o2 fun i hi => by omega
  ⟨World.rowIs.of_block h.s ((o2.same _ (by have := o1.size; have := World.rowIs.lt h.s; omega) (by omega)).trans (o1.same _ (World.rowIs.lt h.s) (by omega))), h1.past o2 (by omega), h2, ks⟩
structure AskAll (w : World) (S : StM) (level : Int) (v : Bool) (A : AskM) : Prop where
  a : ∀ w1, Kept w w1 → Calls Tryd.prog 17 #[.agg (rowOf 65 (stF S)), .int .i64 level, .bool v] w1 fun e w' => e = .returned (.agg (askA A)) ∧ Kept w1 w'
def trV (R : TrM) : Value := .tuple #[.int .u64 R.p, .agg (entA R.e).toArray, .agg (fltA R.f).toArray, .bool R.ok]
section
variable {w : World} {p q : Nat} {B : Nat → Int} {S : StM} {A : AskM}
set_option maxRecDepth 100000 in
set_option maxHeartbeats 4000000 in
theorem ttr_off {level : Int} {v : Bool} (hA : AskAll w S level v A) (at_ k : Int) (hat : U at_) (h1 : A.first = false) (h2 : A.second = false) :
    Calls Tryd.prog 12 #[.pointer (some ⟨p, 0, none⟩), .agg (rowOf 65 (stF S)), .int .u64 at_, .int .i64 k, .int .i64 level, .bool v] w fun e w' => e = .returned (trV ⟨at_, ⟨true, v, if at_ < 65536 then at_ / 256 else 0, 0, 0, if at_ < 65536 then at_ / 256 else 0, 255, 255, if at_ < 65536 then at_ / 256 else 0⟩, fltNone, true⟩) ∧ Kept w w' := by
  have hst := fun w1 => straight_c (w := w1) at_ v hat
  generalize hE : (⟨true, v, if at_ < 65536 then at_ / 256 else 0, 0, 0, if at_ < 65536 then at_ / 256 else 0, 255, 255, if at_ < 65536 then at_ / 256 else 0⟩ : EntM) = E at *
  clear hE
  have r0 := trR_new w S
  go_enter Tryd.func12, Tryd.ntmps12
  go_upto_region 1 with (first | (refine wpList_alloc_is rfl 36 rfl (entA entNone).toArray ent_zero' ?_) | (refine wpList_alloc_is rfl 38 rfl (fltA fltNone).toArray flt_zero' ?_))
  generalize (((w.alloc (.cells (rowOf 65 (stF S)) 27)).alloc (.cells (entA entNone).toArray 36)).alloc (.cells (fltA fltNone).toArray 38)) = w1 at r0 ⊢
  go_upto_region 2 with (first | (refine wpList_load_is (by rfl) 27 _ rfl rfl r0.s _ Tryd.underlying27 rfl st_size ?_) | (go_at_call 17; refine (hA.a _ r0.k).mono ?_; rintro r w2 ⟨rfl, k2⟩) | (refine wpList_alloc_go rfl 46 rfl (askA ask0) ask_zero' ?_; intro ab w3 n3 k3 m3 a3) | (refine wpList_store_go rfl 46 _ _ rfl ab (askA A) rfl rfl a3 (ask_sz12 _) ((ask_len _).trans (ask_len _).symm) (ask_on12 _) ?_; intro w4 o4 a4))
  have l0 := r0.lt
  have l2 := k2.size
  have r4 := ((r0.kept k2).kept k3).past o4 fun i hi => by omega
  have hab : w.heap.size + 3 ≤ ab := by omega
  clear r0 k2 k3 o4 a3 l0 l2 n3 m3
  have c0 : _ = some (Value.bool A.first) := Blk.cell a4 0
  have c1 : _ = some (Value.bool A.second) := Blk.cell a4 1
  rw [h1] at c0
  rw [h2] at c1
  go_upto_region 3 with (first | (refine wpList_built_is (by rfl) 72 #[] rfl (onA false false) (by kernel_rfl) ?_) | (refine wpList_alloc_go rfl 72 rfl (onA false false) on_zero' ?_; intro ob w5 n5 k5 m5 b5) | (refine wpList_store_go rfl 72 _ _ rfl ob (onA false false) rfl rfl b5 (on_size' _ _) ((on_len _ _).trans (on_len _ _).symm) (on_ones' _ _) ?_; intro w6 o6 b6))
  have l4 := r4.lt
  have hla := Blk.lt a4
  have r6 := (r4.kept k5).past o6 fun i hi => by omega
  have a6 : Blk w6 ab 46 (askA A) := (a4.kept k5).past o6 (by omega)
  have hob : w.heap.size + 3 ≤ ob := by omega
  clear r4 k5 o6 a4 b5 l4 hla n5 m5 c0 c1
  have q0 := eq_on false false false false
  have q1 := eq_on false false false true
  clear q1
  go_wp2_with (first | (refine wpList_load_blk (by rfl) 72 _ rfl ob rfl b6 _ Tryd.underlying72 rfl (on_size' _ _) ?_) | (refine wpList_built_is (by rfl) 72 #[] rfl (onA false false) (by kernel_rfl) ?_) | (go_at_call 28; refine (hst _).mono ?_; rintro r w7 ⟨rfl, k7⟩) | (refine wpList_built_is (by rfl) 38 #[] rfl (fltA fltNone).toArray (by kernel_rfl) ?_) | (refine wpList_store_go rfl 36 _ _ rfl (w.heap.size + 1) (entA E).toArray rfl rfl (r6.kept k7).e (ent_size' _) ((ent_len _).trans (ent_len _).symm) (ent_ones' _) ?_; intro w8 o8 e8) | (refine wpList_store_go rfl 38 _ _ rfl (w.heap.size + 1 + 1) (fltA fltNone).toArray rfl rfl (((r6.kept k7).f).past o8 (by omega)) (flt_size' _) ((flt_len _).trans (flt_len _).symm) (flt_ones' _) ?_; intro w9 o9 f9))
  have r9 := (r6.kept k7).done o8 e8 o9 f9
  exact bodyPost_ret (results_tr rfl _ _ _ _ _ _ _ rfl rfl (load_list w9 _ _ (entA E).toArray.toList _ r9.e.all Tryd.underlying36 rfl (ent_size' _)) (load_list w9 _ _ (fltA fltNone).toArray.toList _ r9.f.all Tryd.underlying38 rfl (flt_size' _))) rfl ⟨rfl, r9.k⟩
theorem ask_bd12 (S : StM) (level : Int) (v : Bool) : 0 ≤ (askS S level v).root ∧ (askS S level v).root < 256 := by
  unfold askS
  split
  · exact ⟨Int.le_refl 0, by simp⟩
  · unfold askV
    simp only
    generalize (bif v then S.C 28 else S.C 15) = x
    cases (x / 2 ^ 63 == 1)
    · simp
    · rw [cond_true]
      omega
set_option maxRecDepth 100000 in
set_option maxHeartbeats 4000000 in
theorem ttr_far_true {level : Int} {v : Bool} (hA : AskAll w S level v A) (at_ k : Int) (hk : k = 0 ∨ k = 1 ∨ k = 2) (_hat : U at_) (hi : ¬ at_ < 65536) (hne : (A.first == false && A.second == false) = false) (hx : (A.first == false && A.second == true) = false) :
    Calls Tryd.prog 12 #[.pointer (some ⟨p, 0, none⟩), .agg (rowOf 65 (stF S)), .int .u64 at_, .int .i64 k, .int .i64 level, .bool v] w fun e w' => e = .returned (trV ⟨0, entNone, fltW 1 k at_ 0 v, false⟩) ∧ Kept w w' := by
  have r0 := trR_new w S
  go_enter Tryd.func12, Tryd.ntmps12
  go_upto_region 1 with (first | (refine wpList_alloc_is rfl 36 rfl (entA entNone).toArray ent_zero' ?_) | (refine wpList_alloc_is rfl 38 rfl (fltA fltNone).toArray flt_zero' ?_))
  generalize (((w.alloc (.cells (rowOf 65 (stF S)) 27)).alloc (.cells (entA entNone).toArray 36)).alloc (.cells (fltA fltNone).toArray 38)) = w1 at r0 ⊢
  go_upto_region 2 with (first | (refine wpList_load_is (by rfl) 27 _ rfl rfl r0.s _ Tryd.underlying27 rfl st_size ?_) | (go_at_call 17; refine (hA.a _ r0.k).mono ?_; rintro r w2 ⟨rfl, k2⟩) | (refine wpList_alloc_go rfl 46 rfl (askA ask0) ask_zero' ?_; intro ab w3 n3 k3 m3 a3) | (refine wpList_store_go rfl 46 _ _ rfl ab (askA A) rfl rfl a3 (ask_sz12 _) ((ask_len _).trans (ask_len _).symm) (ask_on12 _) ?_; intro w4 o4 a4))
  have l0 := r0.lt
  have l2 := k2.size
  have r4 := ((r0.kept k2).kept k3).past o4 fun i hi => by omega
  have hab : w.heap.size + 3 ≤ ab := by omega
  clear r0 k2 k3 o4 a3 l0 l2 n3 m3
  have c0 : _ = some (Value.bool A.first) := Blk.cell a4 0
  have c1 : _ = some (Value.bool A.second) := Blk.cell a4 1
  go_upto_region 3 with (first | (refine wpList_built_is (by rfl) 72 _ rfl (onA A.first A.second) (by kernel_rfl) ?_) | (refine wpList_alloc_go rfl 72 rfl (onA false false) on_zero' ?_; intro ob w5 n5 k5 m5 b5) | (refine wpList_store_go rfl 72 _ _ rfl ob (onA A.first A.second) rfl rfl b5 (on_size' _ _) ((on_len _ _).trans (on_len _ _).symm) (on_ones' _ _) ?_; intro w6 o6 b6))
  have l4 := r4.lt
  have hla := Blk.lt a4
  have r6 := (r4.kept k5).past o6 fun i hi => by omega
  have a6 : Blk w6 ab 46 (askA A) := (a4.kept k5).past o6 (by omega)
  have hob : w.heap.size + 3 ≤ ob := by omega
  clear r4 k5 o6 a4 b5 l4 hla n5 m5 c0 c1
  have q0 : ∀ w : World, (binOp .eql 72 (.agg (onA A.first A.second)) (.agg (onA false false))).run Tryd.prog w = Result.ok (.bool false) w := fun w => by rw [eq_on, hne]
  have q2 : ∀ w : World, (binOp .eql 72 (.agg (onA A.first A.second)) (.agg (onA false true))).run Tryd.prog w = Result.ok (.bool false) w := fun w => by rw [eq_on, hx]
  have hU0 : U 0 := by unfold U; omega
  clear hne hx hA
  go_wp2_with (first | (refine wpList_load_blk (by rfl) 72 _ rfl ob rfl (by first | exact b6 | exact d8) _ Tryd.underlying72 rfl (on_size' _ _) ?_) | (refine wpList_built_is (by rfl) 72 #[] rfl (onA false false) (by kernel_rfl) ?_) | (refine wpList_load_blk (by rfl) 46 _ rfl ab rfl a6 _ Tryd.underlying46 rfl (ask_sz12 _) ?_) | (refine wpList_built_is (by rfl) 75 _ rfl (wyA (.pointer (some ⟨p, 0, none⟩)) A at_ k (level == 0) 0 0 0 0) (by kernel_rfl) ?_) | (refine wpList_alloc_go rfl 75 rfl (wyA (.pointer none) ask0 0 0 false 0 0 0 0) way_zero' ?_; intro b w7 n7 k7 m7 y7) | (refine wpList_store_go rfl 75 _ _ rfl b (wyA (.pointer (some ⟨p, 0, none⟩)) A at_ k (level == 0) 0 0 0 0) rfl rfl y7 (way_size' _ _ _ _ _ _ _ _ _) rfl (way_ones' _ _ _ _ _ _ _ _) ?_; intro w8 o8 b8; have l6 := r6.lt; have hla := Blk.lt a6; have hlo := Blk.lt b6; have r8 := (r6.kept k7).past o8 (fun i hi => by omega); have a8 : Blk w8 ab 46 (askA A) := (a6.kept k7).past o8 (by omega); have d8 : Blk w8 ob 72 (onA A.first A.second) := (b6.kept k7).past o8 (by omega); have hb3 : w.heap.size + 3 ≤ b := (by omega); have y8 : Wy w8 b (.pointer (some ⟨p, 0, none⟩)) A at_ k (level == 0) 0 0 0 0 := b8; have nab : b ≠ ab := (by omega); have nob : b ≠ ob := (by omega); clear r6 a6 b6 b8 k7 o8 y7 n7 m7 l6 hla hlo q0; have z12 : _ = some (Value.int .u64 0) := Blk.cell y8 12; have x12 := blk_loose y8 12; have r9 := r8; have d9 := d8) | (refine wpList_built_is (by rfl) 72 _ rfl (onA false true) (by kernel_rfl) ?_) | (go_at_call 30; refine (fault_c _ k at_ 0 v (.inl rfl) hk hU0).mono ?_; rintro r w10 ⟨rfl, k10⟩) | (refine wpList_built_is (by rfl) 36 #[] rfl (entA entNone).toArray (by kernel_rfl) ?_) | (refine wpList_store_go rfl 36 _ _ rfl (w.heap.size + 1) (entA entNone).toArray rfl rfl (r9.kept k10).e (ent_size' _) ((ent_len _).trans (ent_len _).symm) (ent_ones' _) ?_; intro w11 o11 e11) | (refine wpList_store_go rfl 38 _ _ rfl (w.heap.size + 1 + 1) (fltA (fltW 1 k at_ 0 v)).toArray rfl rfl (((r9.kept k10).f).past o11 (by omega)) (flt_size' _) ((flt_len _).trans (flt_len _).symm) (flt_ones' _) ?_; intro w12 o12 f12))
  have r12 := (r9.kept k10).done o11 e11 o12 f12
  refine bodyPost_ret (results_tr rfl _ _ _ _ _ _ _ rfl rfl (load_list w12 _ _ (entA entNone).toArray.toList _ r12.e.all Tryd.underlying36 rfl (ent_size' _)) (load_list w12 _ _ (fltA (fltW 1 k at_ 0 v)).toArray.toList _ r12.f.all Tryd.underlying38 rfl (flt_size' _))) rfl ⟨?_, r12.k⟩
  rfl
set_option maxRecDepth 100000 in
set_option maxHeartbeats 4000000 in
theorem ttr_far_false {level : Int} {v : Bool} (hA : AskAll w S level v A) (at_ k : Int) (hk : k = 0 ∨ k = 1 ∨ k = 2) (hat : U at_) (hi : ¬ at_ < 65536) (hne : (A.first == false && A.second == false) = false) (hx : (A.first == false && A.second == true) = true) :
    Calls Tryd.prog 12 #[.pointer (some ⟨p, 0, none⟩), .agg (rowOf 65 (stF S)), .int .u64 at_, .int .i64 k, .int .i64 level, .bool v] w fun e w' => e = .returned (trV ⟨0, entNone, fltW 2 k at_ at_ v, false⟩) ∧ Kept w w' := by
  have r0 := trR_new w S
  go_enter Tryd.func12, Tryd.ntmps12
  go_upto_region 1 with (first | (refine wpList_alloc_is rfl 36 rfl (entA entNone).toArray ent_zero' ?_) | (refine wpList_alloc_is rfl 38 rfl (fltA fltNone).toArray flt_zero' ?_))
  generalize (((w.alloc (.cells (rowOf 65 (stF S)) 27)).alloc (.cells (entA entNone).toArray 36)).alloc (.cells (fltA fltNone).toArray 38)) = w1 at r0 ⊢
  go_upto_region 2 with (first | (refine wpList_load_is (by rfl) 27 _ rfl rfl r0.s _ Tryd.underlying27 rfl st_size ?_) | (go_at_call 17; refine (hA.a _ r0.k).mono ?_; rintro r w2 ⟨rfl, k2⟩) | (refine wpList_alloc_go rfl 46 rfl (askA ask0) ask_zero' ?_; intro ab w3 n3 k3 m3 a3) | (refine wpList_store_go rfl 46 _ _ rfl ab (askA A) rfl rfl a3 (ask_sz12 _) ((ask_len _).trans (ask_len _).symm) (ask_on12 _) ?_; intro w4 o4 a4))
  have l0 := r0.lt
  have l2 := k2.size
  have r4 := ((r0.kept k2).kept k3).past o4 fun i hi => by omega
  have hab : w.heap.size + 3 ≤ ab := by omega
  clear r0 k2 k3 o4 a3 l0 l2 n3 m3
  have c0 : _ = some (Value.bool A.first) := Blk.cell a4 0
  have c1 : _ = some (Value.bool A.second) := Blk.cell a4 1
  go_upto_region 3 with (first | (refine wpList_built_is (by rfl) 72 _ rfl (onA A.first A.second) (by kernel_rfl) ?_) | (refine wpList_alloc_go rfl 72 rfl (onA false false) on_zero' ?_; intro ob w5 n5 k5 m5 b5) | (refine wpList_store_go rfl 72 _ _ rfl ob (onA A.first A.second) rfl rfl b5 (on_size' _ _) ((on_len _ _).trans (on_len _ _).symm) (on_ones' _ _) ?_; intro w6 o6 b6))
  have l4 := r4.lt
  have hla := Blk.lt a4
  have r6 := (r4.kept k5).past o6 fun i hi => by omega
  have a6 : Blk w6 ab 46 (askA A) := (a4.kept k5).past o6 (by omega)
  have hob : w.heap.size + 3 ≤ ob := by omega
  clear r4 k5 o6 a4 b5 l4 hla n5 m5 c0 c1
  have q0 : ∀ w : World, (binOp .eql 72 (.agg (onA A.first A.second)) (.agg (onA false false))).run Tryd.prog w = Result.ok (.bool false) w := fun w => by rw [eq_on, hne]
  have q2 : ∀ w : World, (binOp .eql 72 (.agg (onA A.first A.second)) (.agg (onA false true))).run Tryd.prog w = Result.ok (.bool true) w := fun w => by rw [eq_on, hx]
  have hU0 : U 0 := by unfold U; omega
  clear hne hx hA
  go_wp2_with (first | (refine wpList_load_blk (by rfl) 72 _ rfl ob rfl (by first | exact b6 | exact d8) _ Tryd.underlying72 rfl (on_size' _ _) ?_) | (refine wpList_built_is (by rfl) 72 #[] rfl (onA false false) (by kernel_rfl) ?_) | (refine wpList_load_blk (by rfl) 46 _ rfl ab rfl a6 _ Tryd.underlying46 rfl (ask_sz12 _) ?_) | (refine wpList_built_is (by rfl) 75 _ rfl (wyA (.pointer (some ⟨p, 0, none⟩)) A at_ k (level == 0) 0 0 0 0) (by kernel_rfl) ?_) | (refine wpList_alloc_go rfl 75 rfl (wyA (.pointer none) ask0 0 0 false 0 0 0 0) way_zero' ?_; intro b w7 n7 k7 m7 y7) | (refine wpList_store_go rfl 75 _ _ rfl b (wyA (.pointer (some ⟨p, 0, none⟩)) A at_ k (level == 0) 0 0 0 0) rfl rfl y7 (way_size' _ _ _ _ _ _ _ _ _) rfl (way_ones' _ _ _ _ _ _ _ _) ?_; intro w8 o8 b8; have l6 := r6.lt; have hla := Blk.lt a6; have hlo := Blk.lt b6; have r8 := (r6.kept k7).past o8 (fun i hi => by omega); have a8 : Blk w8 ab 46 (askA A) := (a6.kept k7).past o8 (by omega); have d8 : Blk w8 ob 72 (onA A.first A.second) := (b6.kept k7).past o8 (by omega); have hb3 : w.heap.size + 3 ≤ b := (by omega); have y8 : Wy w8 b (.pointer (some ⟨p, 0, none⟩)) A at_ k (level == 0) 0 0 0 0 := b8; have nab : b ≠ ab := (by omega); have nob : b ≠ ob := (by omega); clear r6 a6 b6 b8 k7 o8 y7 n7 m7 l6 hla hlo q0; have z12 : _ = some (Value.int .u64 0) := Blk.cell y8 12; have x12 := blk_loose y8 12; have o9 : Only (fun i => i = b) w8 (w8.setCell ⟨b, 12, none⟩ (.int .u64 at_)) := (Only.refl (fun i => i = b) w8).setCell rfl _; have r9 := r8.past o9 (fun i hi => by omega); clear o9) | (refine wpList_built_is (by rfl) 72 _ rfl (onA false true) (by kernel_rfl) ?_) | (go_at_call 30; refine (fault_c _ k at_ at_ v (.inr (.inl rfl)) hk hat).mono ?_; rintro r w10 ⟨rfl, k10⟩) | (refine wpList_built_is (by rfl) 36 #[] rfl (entA entNone).toArray (by kernel_rfl) ?_) | (refine wpList_store_go rfl 36 _ _ rfl (w.heap.size + 1) (entA entNone).toArray rfl rfl (r9.kept k10).e (ent_size' _) ((ent_len _).trans (ent_len _).symm) (ent_ones' _) ?_; intro w11 o11 e11) | (refine wpList_store_go rfl 38 _ _ rfl (w.heap.size + 1 + 1) (fltA (fltW 2 k at_ at_ v)).toArray rfl rfl (((r9.kept k10).f).past o11 (by omega)) (flt_size' _) ((flt_len _).trans (flt_len _).symm) (flt_ones' _) ?_; intro w12 o12 f12))
  have r12 := (r9.kept k10).done o11 e11 o12 f12
  refine bodyPost_ret (results_tr rfl _ _ _ _ _ _ _ rfl rfl (load_list w12 _ _ (entA entNone).toArray.toList _ r12.e.all Tryd.underlying36 rfl (ent_size' _)) (load_list w12 _ _ (fltA (fltW 2 k at_ at_ v)).toArray.toList _ r12.f.all Tryd.underlying38 rfl (flt_size' _))) rfl ⟨?_, r12.k⟩
  rfl
set_option maxRecDepth 100000 in
set_option maxHeartbeats 16000000 in
theorem ttr_in (hT : Tab12 w) (hm : ProgAt w p q B) {level : Int} {v : Bool} (hA : AskAll w S level v A) (at_ k : Int) (hk : k = 0 ∨ k = 1 ∨ k = 2) (hat : U at_) (hi : at_ < 65536) (hne : (A.first == false && A.second == false) = false) (hr0 : 0 ≤ A.root) (hr1 : A.root < 256) :
    Calls Tryd.prog 12 #[.pointer (some ⟨p, 0, none⟩), .agg (rowOf 65 (stF S)), .int .u64 at_, .int .i64 k, .int .i64 level, .bool v] w fun e w' => e = .returned (trV (restS B A at_ k (level == 0) v)) ∧ Kept w w' := by
  obtain ⟨R, hR⟩ : ∃ R, restS B A at_ k (level == 0) v = R := ⟨_, rfl⟩
  rw [hR]
  have r0 := trR_new w S
  go_enter Tryd.func12, Tryd.ntmps12
  go_upto_region 1 with (first | (refine wpList_alloc_is rfl 36 rfl (entA entNone).toArray ent_zero' ?_) | (refine wpList_alloc_is rfl 38 rfl (fltA fltNone).toArray flt_zero' ?_))
  generalize (((w.alloc (.cells (rowOf 65 (stF S)) 27)).alloc (.cells (entA entNone).toArray 36)).alloc (.cells (fltA fltNone).toArray 38)) = w1 at r0 ⊢
  go_upto_region 2 with (first | (refine wpList_load_is (by rfl) 27 _ rfl rfl r0.s _ Tryd.underlying27 rfl st_size ?_) | (go_at_call 17; refine (hA.a _ r0.k).mono ?_; rintro r w2 ⟨rfl, k2⟩) | (refine wpList_alloc_go rfl 46 rfl (askA ask0) ask_zero' ?_; intro ab w3 n3 k3 m3 a3) | (refine wpList_store_go rfl 46 _ _ rfl ab (askA A) rfl rfl a3 (ask_sz12 _) ((ask_len _).trans (ask_len _).symm) (ask_on12 _) ?_; intro w4 o4 a4))
  have l0 := r0.lt
  have l2 := k2.size
  have r4 := ((r0.kept k2).kept k3).past o4 fun i hi => by omega
  have hab : w.heap.size + 3 ≤ ab := by omega
  clear r0 k2 k3 o4 a3 l0 l2 n3 m3
  have c0 : _ = some (Value.bool A.first) := Blk.cell a4 0
  have c1 : _ = some (Value.bool A.second) := Blk.cell a4 1
  go_upto_region 3 with (first | (refine wpList_built_is (by rfl) 72 _ rfl (onA A.first A.second) (by kernel_rfl) ?_) | (refine wpList_alloc_go rfl 72 rfl (onA false false) on_zero' ?_; intro ob w5 n5 k5 m5 b5) | (refine wpList_store_go rfl 72 _ _ rfl ob (onA A.first A.second) rfl rfl b5 (on_size' _ _) ((on_len _ _).trans (on_len _ _).symm) (on_ones' _ _) ?_; intro w6 o6 b6))
  have l4 := r4.lt
  have hla := Blk.lt a4
  have r6 := (r4.kept k5).past o6 fun i hi => by omega
  have a6 : Blk w6 ab 46 (askA A) := (a4.kept k5).past o6 (by omega)
  have hob : w.heap.size + 3 ≤ ob := by omega
  clear r4 k5 o6 a4 b5 l4 hla n5 m5 c0 c1
  have q0 : ∀ w : World, (binOp .eql 72 (.agg (onA A.first A.second)) (.agg (onA false false))).run Tryd.prog w = Result.ok (.bool false) w := fun w => by rw [eq_on, hne]
  have hlm := hm.lt
  have hlt := tab_lt hT
  clear hA hne
  go_wp2_with (first | (refine wpList_load_blk (by rfl) 72 _ rfl ob rfl b6 _ Tryd.underlying72 rfl (on_size' _ _) ?_) | (refine wpList_built_is (by rfl) 72 #[] rfl (onA false false) (by kernel_rfl) ?_) | (refine wpList_load_blk (by rfl) 46 _ rfl ab rfl a6 _ Tryd.underlying46 rfl (ask_sz12 _) ?_) | (refine wpList_built_is (by rfl) 75 _ rfl (wyA (.pointer (some ⟨p, 0, none⟩)) A at_ k (level == 0) 0 0 0 0) (by kernel_rfl) ?_) | (refine wpList_alloc_go rfl 75 rfl (wyA (.pointer none) ask0 0 0 false 0 0 0 0) way_zero' ?_; intro b w7 n7 k7 m7 y7) | (refine wpList_store_go rfl 75 _ _ rfl b (wyA (.pointer (some ⟨p, 0, none⟩)) A at_ k (level == 0) 0 0 0 0) rfl rfl y7 (way_size' _ _ _ _ _ _ _ _ _) rfl (way_ones' _ _ _ _ _ _ _ _) ?_; intro w8 o8 b8; have l6 := r6.lt; have hla := Blk.lt a6; have hlo := Blk.lt b6; have r8 := (r6.kept k7).past o8 (fun i hi => by omega); have a8 : Blk w8 ab 46 (askA A) := (a6.kept k7).past o8 (by omega); have d8 : Blk w8 ob 72 (onA A.first A.second) := (b6.kept k7).past o8 (by omega); have hb3 : w.heap.size + 3 ≤ b := (by omega); have y8 : Wy w8 b (.pointer (some ⟨p, 0, none⟩)) A at_ k (level == 0) 0 0 0 0 := b8; have nab : b ≠ ab := (by omega); have nob : b ≠ ob := (by omega); clear r6 a6 b6 b8 k7 o8 y7 n7 m7 l6 hla hlo q0))
  refine (goboth_any (hT.kept r8.k) (hm.kept r8.k) (by omega) (by omega) (by omega) y8 hat.1 hi hr0 hr1).mono ?_
  rintro r w9 ⟨wr, place, lies, bts, host, rfl, o9, y9, hd⟩
  go_upto_region 12 with fail
  have r9 := r8.past o9 fun i hi => by omega
  have a9 := a8.past o9 (Ne.symm nab)
  have e9 := hR.symm.trans (hd.eq v)
  obtain ⟨hwr, hpl, hli, _⟩ := hd
  clear r8 y8 o9 a8 d8 hR hlm hlt hm hT
  have z12 : _ = some (Value.int .u64 place) := Blk.cell y9 12
  rcases hwr with rfl | rfl | rfl | rfl
  · rw [if_pos rfl] at e9
    go_wp2_with fail
    clear z12
    go_cut [20] from 21 (fun t20 wx => ∃ nb, t20 = .pointer (some ⟨nb, 0, none⟩) ∧ Blk wx nb 36 (entA ⟨true, v, at_ / 256, A.asid, A.vmid, lies / 256, bts, host, place / 256⟩).toArray ∧ Kept w9 wx ∧ w.heap.size + 3 ≤ nb)
    case first =>
      have kd : Kept w9 w9.drew := (Only.refl _ w9).drew
      have yd := y9.kept kd
      have ad := a9.kept kd
      have l9 := r9.lt
      refine wp_region_held_drew (S := fun w2 => Wy w2 b (.pointer (some ⟨p, 0, none⟩)) A at_ k (level == 0) place lies bts host ∧ Blk w2 ab 46 (askA A)) (by kernel_rfl) ⟨yd, ad⟩ (fun hHeld => ?_)
      generalize w9.drew = wd at yd ad kd hHeld ⊢
      refine wpAnyH_take (i := 0) (v := ?_) rfl (by kernel_rfl) (by kernel_rfl) (by kernel_rfl) (fun _ _ _ h => h) (Or.inl ⟨by rfl, ?_⟩) hHeld ?_
      rotate_left
      · intro w2 hSw
        clear hSw
        go_simp
        all_goals rfl
      try simp only [Act.put, List.getElem_toArray, List.getElem_cons_zero, List.setIfInBounds_toArray, List.set_cons_zero, List.set_cons_succ]
      refine wpAnyH_take (i := 1) (v := ?_) rfl (by kernel_rfl) (by kernel_rfl) (by kernel_rfl) (fun _ _ _ h => h) (Or.inl ⟨by rfl, ?_⟩) hHeld ?_
      rotate_left
      · intro w2 hSw
        clear hSw
        go_simp
        all_goals rfl
      try simp only [Act.put, List.getElem_toArray, List.getElem_cons_zero, List.getElem_cons_succ, List.setIfInBounds_toArray, List.set_cons_zero, List.set_cons_succ]
      refine wpAnyH_take (i := 3) (v := ?_) rfl (by kernel_rfl) (by kernel_rfl) (by kernel_rfl) (fun _ _ _ h => h) (Or.inl ⟨by rfl, ?_⟩) hHeld ?_
      rotate_left
      · intro w2 hSw
        clear hSw
        go_simp
        all_goals rfl
      try simp only [Act.put, List.getElem_toArray, List.getElem_cons_zero, List.getElem_cons_succ, List.setIfInBounds_toArray, List.set_cons_zero, List.set_cons_succ]
      refine wpAnyH_take (i := 4) (v := ?_) rfl (by kernel_rfl) (by kernel_rfl) (by kernel_rfl) (fun _ _ _ h => h) (Or.inl ⟨by rfl, ?_⟩) hHeld ?_
      rotate_left
      · intro w2 hSw
        obtain ⟨hSw, hSa⟩ := hSw
        obtain ⟨z0, z1, z2, z3, z4, z5, z6, z7, z8, z9, z10, z11, z12, z13, z14, z15⟩ := wy_cells hSw
        obtain ⟨u0, u1, u2, u3, u4, u5, u6, u7⟩ := ask_cells hSa
        clear hSw hSa
        go_simp
        all_goals rfl
      try simp only [Act.put, List.getElem_toArray, List.getElem_cons_zero, List.getElem_cons_succ, List.setIfInBounds_toArray, List.set_cons_zero, List.set_cons_succ]
      refine wpAnyH_take (i := 5) (v := ?_) rfl (by kernel_rfl) (by kernel_rfl) (by kernel_rfl) (fun _ _ _ h => h) (Or.inl ⟨by rfl, ?_⟩) hHeld ?_
      rotate_left
      · intro w2 hSw
        clear hSw
        go_simp
        all_goals rfl
      try simp only [Act.put, List.getElem_toArray, List.getElem_cons_zero, List.getElem_cons_succ, List.setIfInBounds_toArray, List.set_cons_zero, List.set_cons_succ]
      refine wpAnyH_take (i := 6) (v := ?_) rfl (by kernel_rfl) (by kernel_rfl) (by kernel_rfl) (fun _ _ _ h => h) (Or.inl ⟨by rfl, ?_⟩) hHeld ?_
      rotate_left
      · intro w2 hSw
        obtain ⟨hSw, hSa⟩ := hSw
        obtain ⟨z0, z1, z2, z3, z4, z5, z6, z7, z8, z9, z10, z11, z12, z13, z14, z15⟩ := wy_cells hSw
        obtain ⟨u0, u1, u2, u3, u4, u5, u6, u7⟩ := ask_cells hSa
        clear hSw hSa
        go_simp
        all_goals rfl
      try simp only [Act.put, List.getElem_toArray, List.getElem_cons_zero, List.getElem_cons_succ, List.setIfInBounds_toArray, List.set_cons_zero, List.set_cons_succ]
      refine wpAnyH_take (i := 7) (v := ?_) rfl (by kernel_rfl) (by kernel_rfl) (by kernel_rfl) (fun _ _ _ h => h) (Or.inl ⟨by rfl, ?_⟩) hHeld ?_
      rotate_left
      · intro w2 hSw
        clear hSw
        go_simp
        all_goals rfl
      try simp only [Act.put, List.getElem_toArray, List.getElem_cons_zero, List.getElem_cons_succ, List.setIfInBounds_toArray, List.set_cons_zero, List.set_cons_succ]
      refine wpAnyH_take (i := 8) (v := ?_) rfl (by kernel_rfl) (by kernel_rfl) (by kernel_rfl) (fun _ _ _ h => h) (Or.inl ⟨by rfl, ?_⟩) hHeld ?_
      rotate_left
      · intro w2 hSw
        obtain ⟨hSw, hSa⟩ := hSw
        obtain ⟨z0, z1, z2, z3, z4, z5, z6, z7, z8, z9, z10, z11, z12, z13, z14, z15⟩ := wy_cells hSw
        obtain ⟨u0, u1, u2, u3, u4, u5, u6, u7⟩ := ask_cells hSa
        clear hSw hSa
        go_simp
        all_goals rfl
      try simp only [Act.put, List.getElem_toArray, List.getElem_cons_zero, List.getElem_cons_succ, List.setIfInBounds_toArray, List.set_cons_zero, List.set_cons_succ]
      refine wpAnyH_take (i := 10) (v := ?_) rfl (by kernel_rfl) (by kernel_rfl) (by kernel_rfl) (fun _ _ _ h => h) (Or.inl ⟨by rfl, ?_⟩) hHeld ?_
      rotate_left
      · intro w2 hSw
        clear hSw
        go_simp
        all_goals rfl
      try simp only [Act.put, List.getElem_toArray, List.getElem_cons_zero, List.getElem_cons_succ, List.setIfInBounds_toArray, List.set_cons_zero, List.set_cons_succ]
      refine wpAnyH_take (i := 11) (v := ?_) rfl (by kernel_rfl) (by kernel_rfl) (by kernel_rfl) (fun _ _ _ h => h) (Or.inl ⟨by rfl, ?_⟩) hHeld ?_
      rotate_left
      · intro w2 hSw
        obtain ⟨hSw, hSa⟩ := hSw
        obtain ⟨z0, z1, z2, z3, z4, z5, z6, z7, z8, z9, z10, z11, z12, z13, z14, z15⟩ := wy_cells hSw
        obtain ⟨u0, u1, u2, u3, u4, u5, u6, u7⟩ := ask_cells hSa
        clear hSw hSa
        go_simp
        all_goals rfl
      try simp only [Act.put, List.getElem_toArray, List.getElem_cons_zero, List.getElem_cons_succ, List.setIfInBounds_toArray, List.set_cons_zero, List.set_cons_succ]
      refine wpAnyH_take (i := 12) (v := ?_) rfl (by kernel_rfl) (by kernel_rfl) (by kernel_rfl) (fun _ _ _ h => h) (Or.inl ⟨by rfl, ?_⟩) hHeld ?_
      rotate_left
      · intro w2 hSw
        clear hSw
        go_simp
        all_goals rfl
      try simp only [Act.put, List.getElem_toArray, List.getElem_cons_zero, List.getElem_cons_succ, List.setIfInBounds_toArray, List.set_cons_zero, List.set_cons_succ]
      refine wpAnyH_take (i := 13) (v := ?_) rfl (by kernel_rfl) (by kernel_rfl) (by kernel_rfl) (fun _ _ _ h => h) (Or.inl ⟨by rfl, ?_⟩) hHeld ?_
      rotate_left
      · intro w2 hSw
        obtain ⟨hSw, hSa⟩ := hSw
        obtain ⟨z0, z1, z2, z3, z4, z5, z6, z7, z8, z9, z10, z11, z12, z13, z14, z15⟩ := wy_cells hSw
        obtain ⟨u0, u1, u2, u3, u4, u5, u6, u7⟩ := ask_cells hSa
        clear hSw hSa
        go_simp
        all_goals rfl
      try simp only [Act.put, List.getElem_toArray, List.getElem_cons_zero, List.getElem_cons_succ, List.setIfInBounds_toArray, List.set_cons_zero, List.set_cons_succ]
      refine wpAnyH_take (i := 14) (v := ?_) rfl (by kernel_rfl) (by kernel_rfl) (by kernel_rfl) (fun _ _ _ h => h) (Or.inl ⟨by rfl, ?_⟩) hHeld ?_
      rotate_left
      · intro w2 hSw
        clear hSw
        go_simp
        all_goals rfl
      try simp only [Act.put, List.getElem_toArray, List.getElem_cons_zero, List.getElem_cons_succ, List.setIfInBounds_toArray, List.set_cons_zero, List.set_cons_succ]
      refine wpAnyH_take (i := 15) (v := ?_) rfl (by kernel_rfl) (by kernel_rfl) (by kernel_rfl) (fun _ _ _ h => h) (Or.inl ⟨by rfl, ?_⟩) hHeld ?_
      rotate_left
      · intro w2 hSw
        obtain ⟨hSw, hSa⟩ := hSw
        obtain ⟨z0, z1, z2, z3, z4, z5, z6, z7, z8, z9, z10, z11, z12, z13, z14, z15⟩ := wy_cells hSw
        obtain ⟨u0, u1, u2, u3, u4, u5, u6, u7⟩ := ask_cells hSa
        clear hSw hSa
        go_simp
        all_goals rfl
      try simp only [Act.put, List.getElem_toArray, List.getElem_cons_zero, List.getElem_cons_succ, List.setIfInBounds_toArray, List.set_cons_zero, List.set_cons_succ]
      refine wpAnyH_ready (rs := [2, 18]) (by kernel_rfl) (by simp) ?_
      refine AllReadyH.cons rfl (fun K hK => ?_) ?_
      · go_simp
        refine (frameof_c hat).mono ?_
        rintro e wy ⟨rfl, hwy⟩
        rw [hwy]
        clear hwy wy
        go_simp
        refine hK.out _ _ hHeld (fun hHeld => ?_)
        clear hK K
        try simp only [Act.put, List.setIfInBounds_toArray, List.set_cons_zero, List.set_cons_succ]
        refine wpAnyH_ready (rs := [9, 18]) (by kernel_rfl) (by simp) ?_
        refine AllReadyH.cons rfl (fun K hK => ?_) ?_
        · go_simp
          refine (frameof_c hli).mono ?_
          rintro e wy ⟨rfl, hwy⟩
          rw [hwy]
          clear hwy wy
          go_simp
          refine hK.out _ _ hHeld (fun hHeld => ?_)
          clear hK K
          try simp only [Act.put, List.setIfInBounds_toArray, List.set_cons_zero, List.set_cons_succ]
          refine wpAnyH_ready (rs := [16, 18]) (by kernel_rfl) (by simp) ?_
          refine AllReadyH.cons rfl (fun K hK => ?_) ?_
          · go_simp
            refine (frameof_c hpl).mono ?_
            rintro e wy ⟨rfl, hwy⟩
            rw [hwy]
            clear hwy wy
            go_simp
            refine hK.out _ _ hHeld (fun hHeld => ?_)
            clear hK K
            try simp only [Act.put, List.setIfInBounds_toArray, List.set_cons_zero, List.set_cons_succ]
            refine wpAnyH_take (i := 17) (v := .agg (entA ⟨true, v, at_ / 256, A.asid, A.vmid, lies / 256, bts, host, place / 256⟩).toArray) rfl (by kernel_rfl) (by kernel_rfl) (by kernel_rfl) (fun _ _ _ h => h) (Or.inl ⟨by rfl, ?_⟩) hHeld ?_
            · intro w2 hSw
              exact exec_build rfl _ rfl (entA ⟨true, v, at_ / 256, A.asid, A.vmid, lies / 256, bts, host, place / 256⟩).toArray (by kernel_rfl)
            try simp only [Act.put, List.getElem_toArray, List.getElem_cons_zero, List.getElem_cons_succ, List.setIfInBounds_toArray, List.set_cons_zero, List.set_cons_succ]
            refine wpAnyH_ready (rs := [18]) (by kernel_rfl) (by simp) ?_
            refine AllReadyH.cons rfl (fun K hK => ?_) AllReadyH.nil
            rw [if_pos (by rfl)]
            refine wp_alloc_go _ rfl _ ent_zero' ?_
            intro nb wn nnb kn mnb en
            have lb := Blk.lt hHeld.1
            have la := Blk.lt hHeld.2
            have hy := Blk.kept hHeld.1 kn
            have ha := Blk.kept hHeld.2 kn
            refine hK.out _ _ ⟨hy, ha⟩ (fun hHeld => ?_)
            clear hK K hy ha
            try simp only [Act.put, List.setIfInBounds_toArray]
            try simp only [List.getElem_toArray, List.getElem_cons_zero, List.getElem_cons_succ, List.set_cons_zero, List.set_cons_succ]
            refine wpAnyH_ready (rs := [19]) (by kernel_rfl) (by simp) ?_
            refine AllReadyH.cons rfl (fun K hK => ?_) AllReadyH.nil
            rw [if_pos (by rfl)]
            refine wp_store_go _ _ _ rfl nb (entA ⟨true, v, at_ / 256, A.asid, A.vmid, lies / 256, bts, host, place / 256⟩).toArray rfl rfl en (ent_size' _) ((ent_len _).trans (ent_len _).symm) (ent_ones' _) ?_
            intro wp op ep
            have hy := hHeld.1.past op (by omega)
            have ha := hHeld.2.past op (by omega)
            refine hK.out _ _ ⟨hy, ha⟩ (fun hHeld => ?_)
            clear hK K
            try simp only [Act.put, List.setIfInBounds_toArray]
            refine wpAnyH_done (by kernel_rfl) ?_ _
            go_wp2_with fail
            go_meet
            exact ⟨nb, rfl, ep, (kd.then kn).new op fun i hi => by have := kd.size; omega, by have := kd.size; omega⟩
          refine AllReadyH.cons rfl (fun K hK => ?_) AllReadyH.nil
          rw [if_pos (by rfl)]
          refine wp_alloc_go _ rfl _ ent_zero' ?_
          intro nb wn nnb kn mnb en
          have lb := Blk.lt hHeld.1
          have la := Blk.lt hHeld.2
          have hy := Blk.kept hHeld.1 kn
          have ha := Blk.kept hHeld.2 kn
          refine hK.out _ _ ⟨hy, ha⟩ (fun hHeld => ?_)
          clear hK K hy ha
          try simp only [Act.put, List.setIfInBounds_toArray]
          refine wpAnyH_ready (rs := [16]) (by kernel_rfl) (by simp) ?_
          refine AllReadyH.cons rfl (fun K hK => ?_) AllReadyH.nil
          go_simp
          refine (frameof_c hpl).mono ?_
          rintro e wy ⟨rfl, hwy⟩
          rw [hwy]
          clear hwy wy
          go_simp
          refine hK.out _ _ hHeld (fun hHeld => ?_)
          clear hK K
          try simp only [Act.put, List.setIfInBounds_toArray, List.set_cons_zero, List.set_cons_succ]
          refine wpAnyH_take (i := 17) (v := .agg (entA ⟨true, v, at_ / 256, A.asid, A.vmid, lies / 256, bts, host, place / 256⟩).toArray) rfl (by kernel_rfl) (by kernel_rfl) (by kernel_rfl) (fun _ _ _ h => h) (Or.inl ⟨by rfl, ?_⟩) hHeld ?_
          · intro w2 hSw
            exact exec_build rfl _ rfl (entA ⟨true, v, at_ / 256, A.asid, A.vmid, lies / 256, bts, host, place / 256⟩).toArray (by kernel_rfl)
          try simp only [Act.put, List.getElem_toArray, List.getElem_cons_zero, List.getElem_cons_succ, List.setIfInBounds_toArray, List.set_cons_zero, List.set_cons_succ]
          refine wpAnyH_ready (rs := [19]) (by kernel_rfl) (by simp) ?_
          refine AllReadyH.cons rfl (fun K hK => ?_) AllReadyH.nil
          rw [if_pos (by rfl)]
          refine wp_store_go _ _ _ rfl nb (entA ⟨true, v, at_ / 256, A.asid, A.vmid, lies / 256, bts, host, place / 256⟩).toArray rfl rfl en (ent_size' _) ((ent_len _).trans (ent_len _).symm) (ent_ones' _) ?_
          intro wp op ep
          have hy := hHeld.1.past op (by omega)
          have ha := hHeld.2.past op (by omega)
          refine hK.out _ _ ⟨hy, ha⟩ (fun hHeld => ?_)
          clear hK K
          try simp only [Act.put, List.setIfInBounds_toArray]
          refine wpAnyH_done (by kernel_rfl) ?_ _
          go_wp2_with fail
          go_meet
          exact ⟨nb, rfl, ep, (kd.then kn).new op fun i hi => by have := kd.size; omega, by have := kd.size; omega⟩
        refine AllReadyH.cons rfl (fun K hK => ?_) AllReadyH.nil
        rw [if_pos (by rfl)]
        refine wp_alloc_go _ rfl _ ent_zero' ?_
        intro nb wn nnb kn mnb en
        have lb := Blk.lt hHeld.1
        have la := Blk.lt hHeld.2
        have hy := Blk.kept hHeld.1 kn
        have ha := Blk.kept hHeld.2 kn
        refine hK.out _ _ ⟨hy, ha⟩ (fun hHeld => ?_)
        clear hK K hy ha
        try simp only [Act.put, List.setIfInBounds_toArray]
        refine wpAnyH_ready (rs := [9]) (by kernel_rfl) (by simp) ?_
        refine AllReadyH.cons rfl (fun K hK => ?_) AllReadyH.nil
        go_simp
        refine (frameof_c hli).mono ?_
        rintro e wy ⟨rfl, hwy⟩
        rw [hwy]
        clear hwy wy
        go_simp
        refine hK.out _ _ hHeld (fun hHeld => ?_)
        clear hK K
        try simp only [Act.put, List.setIfInBounds_toArray, List.set_cons_zero, List.set_cons_succ]
        refine wpAnyH_ready (rs := [16]) (by kernel_rfl) (by simp) ?_
        refine AllReadyH.cons rfl (fun K hK => ?_) AllReadyH.nil
        go_simp
        refine (frameof_c hpl).mono ?_
        rintro e wy ⟨rfl, hwy⟩
        rw [hwy]
        clear hwy wy
        go_simp
        refine hK.out _ _ hHeld (fun hHeld => ?_)
        clear hK K
        try simp only [Act.put, List.setIfInBounds_toArray, List.set_cons_zero, List.set_cons_succ]
        refine wpAnyH_take (i := 17) (v := .agg (entA ⟨true, v, at_ / 256, A.asid, A.vmid, lies / 256, bts, host, place / 256⟩).toArray) rfl (by kernel_rfl) (by kernel_rfl) (by kernel_rfl) (fun _ _ _ h => h) (Or.inl ⟨by rfl, ?_⟩) hHeld ?_
        · intro w2 hSw
          exact exec_build rfl _ rfl (entA ⟨true, v, at_ / 256, A.asid, A.vmid, lies / 256, bts, host, place / 256⟩).toArray (by kernel_rfl)
        try simp only [Act.put, List.getElem_toArray, List.getElem_cons_zero, List.getElem_cons_succ, List.setIfInBounds_toArray, List.set_cons_zero, List.set_cons_succ]
        refine wpAnyH_ready (rs := [19]) (by kernel_rfl) (by simp) ?_
        refine AllReadyH.cons rfl (fun K hK => ?_) AllReadyH.nil
        rw [if_pos (by rfl)]
        refine wp_store_go _ _ _ rfl nb (entA ⟨true, v, at_ / 256, A.asid, A.vmid, lies / 256, bts, host, place / 256⟩).toArray rfl rfl en (ent_size' _) ((ent_len _).trans (ent_len _).symm) (ent_ones' _) ?_
        intro wp op ep
        have hy := hHeld.1.past op (by omega)
        have ha := hHeld.2.past op (by omega)
        refine hK.out _ _ ⟨hy, ha⟩ (fun hHeld => ?_)
        clear hK K
        try simp only [Act.put, List.setIfInBounds_toArray]
        refine wpAnyH_done (by kernel_rfl) ?_ _
        go_wp2_with fail
        go_meet
        exact ⟨nb, rfl, ep, (kd.then kn).new op fun i hi => by have := kd.size; omega, by have := kd.size; omega⟩
      refine AllReadyH.cons rfl (fun K hK => ?_) AllReadyH.nil
      rw [if_pos (by rfl)]
      refine wp_alloc_go _ rfl _ ent_zero' ?_
      intro nb wn nnb kn mnb en
      have lb := Blk.lt hHeld.1
      have la := Blk.lt hHeld.2
      have hy := Blk.kept hHeld.1 kn
      have ha := Blk.kept hHeld.2 kn
      refine hK.out _ _ ⟨hy, ha⟩ (fun hHeld => ?_)
      clear hK K hy ha
      try simp only [Act.put, List.setIfInBounds_toArray]
      refine wpAnyH_ready (rs := [2]) (by kernel_rfl) (by simp) ?_
      refine AllReadyH.cons rfl (fun K hK => ?_) AllReadyH.nil
      go_simp
      refine (frameof_c hat).mono ?_
      rintro e wy ⟨rfl, hwy⟩
      rw [hwy]
      clear hwy wy
      go_simp
      refine hK.out _ _ hHeld (fun hHeld => ?_)
      clear hK K
      try simp only [Act.put, List.setIfInBounds_toArray, List.set_cons_zero, List.set_cons_succ]
      refine wpAnyH_ready (rs := [9]) (by kernel_rfl) (by simp) ?_
      refine AllReadyH.cons rfl (fun K hK => ?_) AllReadyH.nil
      go_simp
      refine (frameof_c hli).mono ?_
      rintro e wy ⟨rfl, hwy⟩
      rw [hwy]
      clear hwy wy
      go_simp
      refine hK.out _ _ hHeld (fun hHeld => ?_)
      clear hK K
      try simp only [Act.put, List.setIfInBounds_toArray, List.set_cons_zero, List.set_cons_succ]
      refine wpAnyH_ready (rs := [16]) (by kernel_rfl) (by simp) ?_
      refine AllReadyH.cons rfl (fun K hK => ?_) AllReadyH.nil
      go_simp
      refine (frameof_c hpl).mono ?_
      rintro e wy ⟨rfl, hwy⟩
      rw [hwy]
      clear hwy wy
      go_simp
      refine hK.out _ _ hHeld (fun hHeld => ?_)
      clear hK K
      try simp only [Act.put, List.setIfInBounds_toArray, List.set_cons_zero, List.set_cons_succ]
      refine wpAnyH_take (i := 17) (v := .agg (entA ⟨true, v, at_ / 256, A.asid, A.vmid, lies / 256, bts, host, place / 256⟩).toArray) rfl (by kernel_rfl) (by kernel_rfl) (by kernel_rfl) (fun _ _ _ h => h) (Or.inl ⟨by rfl, ?_⟩) hHeld ?_
      · intro w2 hSw
        exact exec_build rfl _ rfl (entA ⟨true, v, at_ / 256, A.asid, A.vmid, lies / 256, bts, host, place / 256⟩).toArray (by kernel_rfl)
      try simp only [Act.put, List.getElem_toArray, List.getElem_cons_zero, List.getElem_cons_succ, List.setIfInBounds_toArray, List.set_cons_zero, List.set_cons_succ]
      refine wpAnyH_ready (rs := [19]) (by kernel_rfl) (by simp) ?_
      refine AllReadyH.cons rfl (fun K hK => ?_) AllReadyH.nil
      rw [if_pos (by rfl)]
      refine wp_store_go _ _ _ rfl nb (entA ⟨true, v, at_ / 256, A.asid, A.vmid, lies / 256, bts, host, place / 256⟩).toArray rfl rfl en (ent_size' _) ((ent_len _).trans (ent_len _).symm) (ent_ones' _) ?_
      intro wp op ep
      have hy := hHeld.1.past op (by omega)
      have ha := hHeld.2.past op (by omega)
      refine hK.out _ _ ⟨hy, ha⟩ (fun hHeld => ?_)
      clear hK K
      try simp only [Act.put, List.setIfInBounds_toArray]
      refine wpAnyH_done (by kernel_rfl) ?_ _
      go_wp2_with fail
      go_meet
      exact ⟨nb, rfl, ep, (kd.then kn).new op fun i hi => by have := kd.size; omega, by have := kd.size; omega⟩
    case rest =>
      obtain ⟨nb, rfl, en, kc, hnb⟩ := hcut
      have kd : Kept wc wc.drew := (Only.refl _ wc).drew
      have yd := (y9.kept kc).kept kd
      have ed := en.kept kd
      have rd := (r9.kept kc).kept kd
      clear y9 a9 r9 en kc kd
      go_wp2_with fail
      refine wp_region_held_drew (S := fun w2 => Wy w2 b (.pointer (some ⟨p, 0, none⟩)) A at_ k (level == 0) place lies bts host ∧ Blk w2 nb 36 (entA ⟨true, v, at_ / 256, A.asid, A.vmid, lies / 256, bts, host, place / 256⟩).toArray) (by kernel_rfl) ⟨yd, ed⟩ (fun hHeld => ?_)
      generalize wc.drew = wd at yd ed rd hHeld ⊢
      refine wpAnyH_take (i := 0) (v := ?_) rfl (by kernel_rfl) (by kernel_rfl) (by kernel_rfl) (fun _ _ _ h => h) (Or.inl ⟨by rfl, ?_⟩) hHeld ?_
      rotate_left
      · intro w2 hSw
        clear hSw
        go_simp
        all_goals rfl
      try simp only [Act.put, List.getElem_toArray, List.getElem_cons_zero, List.setIfInBounds_toArray, List.set_cons_zero, List.set_cons_succ]
      refine wpAnyH_take (i := 1) (v := ?_) rfl (by kernel_rfl) (by kernel_rfl) (by kernel_rfl) (fun _ _ _ h => h) (Or.inl ⟨by rfl, ?_⟩) hHeld ?_
      rotate_left
      · intro w2 hSw
        obtain ⟨hSw, hSa⟩ := hSw
        obtain ⟨z0, z1, z2, z3, z4, z5, z6, z7, z8, z9, z10, z11, z12, z13, z14, z15⟩ := wy_cells hSw
        clear hSw hSa
        go_simp
        all_goals rfl
      try simp only [Act.put, List.getElem_toArray, List.getElem_cons_zero, List.getElem_cons_succ, List.setIfInBounds_toArray, List.set_cons_zero, List.set_cons_succ]
      refine wpAnyH_take (i := 2) (v := .agg (entA ⟨true, v, at_ / 256, A.asid, A.vmid, lies / 256, bts, host, place / 256⟩).toArray) rfl (by kernel_rfl) (by kernel_rfl) (by kernel_rfl) (fun _ _ _ h => h) (Or.inl ⟨by rfl, ?_⟩) hHeld ?_
      · intro w2 hSw
        exact exec_load rfl rfl (load_list w2 _ _ (entA ⟨true, v, at_ / 256, A.asid, A.vmid, lies / 256, bts, host, place / 256⟩).toArray.toList _ (Blk.all hSw.2) Tryd.underlying36 rfl (ent_size' _))
      try simp only [Act.put, List.getElem_toArray, List.getElem_cons_zero, List.getElem_cons_succ, List.setIfInBounds_toArray, List.set_cons_zero, List.set_cons_succ]
      refine wpAnyH_take (i := 3) (v := .agg (fltA fltNone).toArray) rfl (by kernel_rfl) (by kernel_rfl) (by kernel_rfl) (fun _ _ _ h => h) (Or.inl ⟨by rfl, ?_⟩) hHeld ?_
      · intro w2 hSw
        exact exec_build rfl _ rfl (fltA fltNone).toArray (by kernel_rfl)
      try simp only [Act.put, List.getElem_toArray, List.getElem_cons_zero, List.getElem_cons_succ, List.setIfInBounds_toArray, List.set_cons_zero, List.set_cons_succ]
      refine wpAnyH_take (i := 4) (v := ?_) rfl (by kernel_rfl) (by kernel_rfl) (by kernel_rfl) (fun _ _ _ h => h) (Or.inl ⟨by rfl, ?_⟩) hHeld ?_
      rotate_left
      · intro w2 hSw
        clear hSw
        go_simp
        all_goals rfl
      try simp only [Act.put, List.getElem_toArray, List.getElem_cons_zero, List.getElem_cons_succ, List.setIfInBounds_toArray, List.set_cons_zero, List.set_cons_succ]
      refine wpAnyH_ready (rs := [5]) (by kernel_rfl) (by simp) ?_
      refine AllReadyH.cons rfl (fun K hK => ?_) AllReadyH.nil
      rw [if_pos (by rfl)]
      refine wp_store_go _ _ _ rfl (w.heap.size + 1) (entA ⟨true, v, at_ / 256, A.asid, A.vmid, lies / 256, bts, host, place / 256⟩).toArray rfl rfl rd.e (ent_size' _) ((ent_len _).trans (ent_len _).symm) (ent_ones' _) ?_
      intro w11 o11 e11
      have hy := hHeld.1.past o11 (by omega)
      have ha := hHeld.2.past o11 (by omega)
      refine hK.out _ _ ⟨hy, ha⟩ (fun hHeld => ?_)
      clear hK K hy ha
      try simp only [Act.put, List.setIfInBounds_toArray]
      refine wpAnyH_ready (rs := [6]) (by kernel_rfl) (by simp) ?_
      refine AllReadyH.cons rfl (fun K hK => ?_) AllReadyH.nil
      rw [if_pos (by rfl)]
      refine wp_store_go _ _ _ rfl (w.heap.size + 1 + 1) (fltA fltNone).toArray rfl rfl (rd.f.past o11 (by omega)) (flt_size' _) ((flt_len _).trans (flt_len _).symm) (flt_ones' _) ?_
      intro w12 o12 f12
      have hy := hHeld.1.past o12 (by omega)
      have ha := hHeld.2.past o12 (by omega)
      refine hK.out _ _ ⟨hy, ha⟩ (fun hHeld => ?_)
      clear hK K hy ha
      try simp only [Act.put]
      refine wpAnyH_take (i := 7) (v := ?_) rfl (by kernel_rfl) (by kernel_rfl) (by kernel_rfl) (fun _ _ _ h => h) (Or.inl ⟨by rfl, ?_⟩) hHeld ?_
      rotate_left
      · intro w2 hSw
        clear hSw
        go_simp
        all_goals rfl
      try simp only [Act.put, List.getElem_toArray, List.getElem_cons_zero, List.getElem_cons_succ, List.setIfInBounds_toArray, List.set_cons_zero, List.set_cons_succ]
      refine wpAnyH_done (by kernel_rfl) ?_ _
      go_wp2_with fail
      have r12 := rd.done o11 e11 o12 f12
      have ep : at_ / 256 % 256 = at_ / 256 := by have := hat.1; omega
      rw [ep] at e9
      clear ep
      refine bodyPost_ret (results_tr rfl _ _ _ _ _ _ _ rfl rfl (load_list w12 _ _ (entA ⟨true, v, at_ / 256, A.asid, A.vmid, lies / 256, bts, host, place / 256⟩).toArray.toList _ r12.e.all Tryd.underlying36 rfl (ent_size' _)) (load_list w12 _ _ (fltA fltNone).toArray.toList _ r12.f.all Tryd.underlying38 rfl (flt_size' _))) rfl ⟨?_, r12.k⟩
      rw [e9]
      rfl
  · rw [if_neg (by decide)] at e9
    go_wp2_with (first | (go_at_call 30; refine (fault_c _ k at_ place v (.inl rfl) hk hpl).mono ?_; rintro r w10 ⟨rfl, k10⟩) | (refine wpList_built_is (by rfl) 36 #[] rfl (entA entNone).toArray (by kernel_rfl) ?_) | (refine wpList_store_go rfl 36 _ _ rfl (w.heap.size + 1) (entA entNone).toArray rfl rfl (r9.kept k10).e (ent_size' _) ((ent_len _).trans (ent_len _).symm) (ent_ones' _) ?_; intro w11 o11 e11) | (refine wpList_store_go rfl 38 _ _ rfl (w.heap.size + 1 + 1) (fltA (fltW 1 k at_ place v)).toArray rfl rfl (((r9.kept k10).f).past o11 (by omega)) (flt_size' _) ((flt_len _).trans (flt_len _).symm) (flt_ones' _) ?_; intro w12 o12 f12))
    have r12 := (r9.kept k10).done o11 e11 o12 f12
    refine bodyPost_ret (results_tr rfl _ _ _ _ _ _ _ rfl rfl (load_list w12 _ _ (entA entNone).toArray.toList _ r12.e.all Tryd.underlying36 rfl (ent_size' _)) (load_list w12 _ _ (fltA (fltW 1 k at_ place v)).toArray.toList _ r12.f.all Tryd.underlying38 rfl (flt_size' _))) rfl ⟨?_, r12.k⟩
    rw [e9]
    rfl
  · rw [if_neg (by decide)] at e9
    go_wp2_with (first | (go_at_call 30; refine (fault_c _ k at_ place v (.inr (.inl rfl)) hk hpl).mono ?_; rintro r w10 ⟨rfl, k10⟩) | (refine wpList_built_is (by rfl) 36 #[] rfl (entA entNone).toArray (by kernel_rfl) ?_) | (refine wpList_store_go rfl 36 _ _ rfl (w.heap.size + 1) (entA entNone).toArray rfl rfl (r9.kept k10).e (ent_size' _) ((ent_len _).trans (ent_len _).symm) (ent_ones' _) ?_; intro w11 o11 e11) | (refine wpList_store_go rfl 38 _ _ rfl (w.heap.size + 1 + 1) (fltA (fltW 2 k at_ place v)).toArray rfl rfl (((r9.kept k10).f).past o11 (by omega)) (flt_size' _) ((flt_len _).trans (flt_len _).symm) (flt_ones' _) ?_; intro w12 o12 f12))
    have r12 := (r9.kept k10).done o11 e11 o12 f12
    refine bodyPost_ret (results_tr rfl _ _ _ _ _ _ _ rfl rfl (load_list w12 _ _ (entA entNone).toArray.toList _ r12.e.all Tryd.underlying36 rfl (ent_size' _)) (load_list w12 _ _ (fltA (fltW 2 k at_ place v)).toArray.toList _ r12.f.all Tryd.underlying38 rfl (flt_size' _))) rfl ⟨?_, r12.k⟩
    rw [e9]
    rfl
  · rw [if_neg (by decide)] at e9
    go_wp2_with (first | (go_at_call 30; refine (fault_c _ k at_ place v (.inr (.inr rfl)) hk hpl).mono ?_; rintro r w10 ⟨rfl, k10⟩) | (refine wpList_built_is (by rfl) 36 #[] rfl (entA entNone).toArray (by kernel_rfl) ?_) | (refine wpList_store_go rfl 36 _ _ rfl (w.heap.size + 1) (entA entNone).toArray rfl rfl (r9.kept k10).e (ent_size' _) ((ent_len _).trans (ent_len _).symm) (ent_ones' _) ?_; intro w11 o11 e11) | (refine wpList_store_go rfl 38 _ _ rfl (w.heap.size + 1 + 1) (fltA (fltW 3 k at_ place v)).toArray rfl rfl (((r9.kept k10).f).past o11 (by omega)) (flt_size' _) ((flt_len _).trans (flt_len _).symm) (flt_ones' _) ?_; intro w12 o12 f12))
    have r12 := (r9.kept k10).done o11 e11 o12 f12
    refine bodyPost_ret (results_tr rfl _ _ _ _ _ _ _ rfl rfl (load_list w12 _ _ (entA entNone).toArray.toList _ r12.e.all Tryd.underlying36 rfl (ent_size' _)) (load_list w12 _ _ (fltA (fltW 3 k at_ place v)).toArray.toList _ r12.f.all Tryd.underlying38 rfl (flt_size' _))) rfl ⟨?_, r12.k⟩
    rw [e9]
    rfl
theorem ttr_any (hT : Tab12 w) (hm : ProgAt w p q B) (hS : S.Ok) (at_ k level : Int) (v : Bool) (hk : k = 0 ∨ k = 1 ∨ k = 2) (hat : U at_) :
    Calls Tryd.prog 12 #[.pointer (some ⟨p, 0, none⟩), .agg (rowOf 65 (stF S)), .int .u64 at_, .int .i64 k, .int .i64 level, .bool v] w fun e w' => e = .returned (.tuple #[.int .u64 (trS B S at_ k level v false).p, .agg (entA (trS B S at_ k level v false).e).toArray, .agg (fltA (trS B S at_ k level v false).f).toArray, .bool (trS B S at_ k level v false).ok]) ∧ Kept w w' := by
  have hA : AskAll w S level v (askS S level v) := ⟨fun w1 k1 => task_any (hT.kept k1) hS level v⟩
  have hb := ask_bd12 S level v
  have ho := ask_off12 S level v
  by_cases hn : (askS S level v).first = false ∧ (askS S level v).second = false
  · have h := ttr_off (p := p) hA at_ k hat hn.1 hn.2
    have e : trS B S at_ k level v false = ⟨at_, ⟨true, v, if at_ < 65536 then at_ / 256 else 0, 0, 0, if at_ < 65536 then at_ / 256 else 0, 255, 255, if at_ < 65536 then at_ / 256 else 0⟩, fltNone, true⟩ := by
      unfold trS
      rw [if_pos hn, (ho.1 hn.1).1, (ho.2 hn.2).1]
    rw [e]
    exact h
  · have hne : ((askS S level v).first == false && (askS S level v).second == false) = false := by
      cases h1 : (askS S level v).first
      · cases h2 : (askS S level v).second
        · exact absurd ⟨h1, h2⟩ hn
        · rfl
      · rfl
    by_cases hi : at_ < 65536
    · rw [tr_rest hn (by omega)]
      exact ttr_in hT hm hA at_ k hk hat hi hne hb.1 hb.2
    · have e : trS B S at_ k level v false = ⟨0, entNone, if (askS S level v).first = true then ⟨pageC k, at_, 0, v⟩ else ⟨gfC k, at_, at_ / 4, v⟩, false⟩ := by
        unfold trS
        rw [if_neg hn, if_pos (by omega)]
      rw [e]
      cases h1 : (askS S level v).first
      · cases h2 : (askS S level v).second
        · exact absurd ⟨h1, h2⟩ hn
        · rw [if_neg (fun x => Bool.noConfusion x)]
          exact ttr_far_false (p := p) hA at_ k hk hat hi hne (by rw [h1, h2]; rfl)
      · rw [if_pos rfl]
        exact ttr_far_true (p := p) hA at_ k hk hat hi hne (by rw [h1]; rfl)
/-- The boxes of a state and of an entry with a fault's room behind them. -/
structure AlR (w w1 : World) (S : StM) (e : EntM) : Prop where
  s : StAt w1 w.heap.size S
  e : Blk w1 (w.heap.size + 1) 36 (entA e).toArray
  f : Blk w1 (w.heap.size + 1 + 1) 38 (fltA fltNone).toArray
  k : Kept w w1
theorem alR_new (w : World) (S : StM) (e : EntM) : AlR w (((w.alloc (.cells (rowOf 65 (stF S)) 27)).alloc (.cells (entA e).toArray 36)).alloc (.cells (fltA fltNone).toArray 38)) S e := by
  have h0 := st_new w S
  have n1 : (w.alloc (.cells (rowOf 65 (stF S)) 27)).heap.size = w.heap.size + 1 := Go.Deep.nblk_alloc _ _
  have e0 := alloc_last (w.alloc (.cells (rowOf 65 (stF S)) 27)) (entA e).toArray 36
  have n2 : ((w.alloc (.cells (rowOf 65 (stF S)) 27)).alloc (.cells (entA e).toArray 36)).heap.size = w.heap.size + 1 + 1 := by rw [Go.Deep.nblk_alloc, n1]
  have f0 := alloc_last ((w.alloc (.cells (rowOf 65 (stF S)) 27)).alloc (.cells (entA e).toArray 36)) (fltA fltNone).toArray 38
  rw [n1] at e0
  rw [n2] at f0
  have k1 : Kept (w.alloc (.cells (rowOf 65 (stF S)) 27)) (((w.alloc (.cells (rowOf 65 (stF S)) 27)).alloc (.cells (entA e).toArray 36)).alloc (.cells (fltA fltNone).toArray 38)) := ((Only.refl _ _).alloc _).alloc _
  exact ⟨World.rowIs.of_block h0 (k1.same _ (World.rowIs.lt h0) id), Blk.kept e0 ((Only.refl _ _).alloc _), f0, (((Only.refl _ w).alloc _).alloc _).alloc _⟩
theorem AlR.past {w w1 w2 : World} {S : StM} {e : EntM} {T : Nat → Prop} (h : AlR w w1 S e) (g : Only T w1 w2) (ht : ∀ i, T i → w.heap.size + 3 ≤ i) : AlR w w2 S e :=
  ⟨World.rowIs.of_block h.s (g.same _ (World.rowIs.lt h.s) fun x => by have := ht _ x; omega), g.block h.e fun x => by have := ht _ x; omega, g.block h.f fun x => by have := ht _ x; omega, h.k.new g fun i x => by have := ht _ x; omega⟩
theorem AlR.kept {w w1 w2 : World} {S : StM} {e : EntM} (h : AlR w w1 S e) (g : Kept w1 w2) : AlR w w2 S e := h.past g fun _ x => x.elim
set_option maxRecDepth 100000 in
set_option maxHeartbeats 4000000 in
theorem allow_page (hT : Tab12 w) {level : Int} {v : Bool} (hA : AskAll w S level v A) (e : EntM) (at_ k : Int) (hk : k = 0 ∨ k = 1 ∨ k = 2) (PB : Hid ((e.bits != 255) = true)) (PY : Hid (mayE e.bits k (level == 0) A.sum A.mxr = false)) :
    Calls Tryd.prog 18 #[.agg (rowOf 65 (stF S)), .agg (entA e).toArray, .int .u64 at_, .int .i64 k, .int .i64 level, .bool v] w fun r w' => r = .returned (.tuple #[.agg (fltA (fltW 1 k at_ 0 v)).toArray, .bool false]) ∧ Kept w w' := by
  have r0 := alR_new w S e
  have hgU : U 0 := by unfold U; omega
  have hft := fun w1 => fault_c (w := w1) 1 k at_ 0 v (.inl rfl) hk hgU
  generalize hF : (fltW 1 k at_ 0 v) = F at *
  clear hF
  go_enter Tryd.func18, Tryd.ntmps18
  go_upto_region 1 with (refine wpList_alloc_is rfl 38 rfl (fltA fltNone).toArray flt_zero' ?_)
  generalize (((w.alloc (.cells (rowOf 65 (stF S)) 27)).alloc (.cells (entA e).toArray 36)).alloc (.cells (fltA fltNone).toArray 38)) = w1 at r0 ⊢
  go_upto_region 2 with (first | (refine wpList_load_is (by rfl) 27 _ rfl rfl r0.s _ Tryd.underlying27 rfl st_size ?_) | (go_at_call 17; refine (hA.a _ r0.k).mono ?_; rintro r w2 ⟨rfl, k2⟩) | (refine wpList_alloc_go rfl 46 rfl (askA ask0) ask_zero' ?_; intro ab w3 n3 k3 m3 a3) | (refine wpList_store_go rfl 46 _ _ rfl ab (askA A) rfl rfl a3 (ask_sz12 _) ((ask_len _).trans (ask_len _).symm) (ask_on12 _) ?_; intro w4 o4 a4))
  have l0 := Blk.lt r0.f
  have l2 := k2.size
  have q4 : AlR w w4 S e := ((r0.kept k2).kept k3).past o4 fun i hi => by omega
  clear r0 k2 k3 o4 a3 l0 l2 n3 m3 hA
  have c6 : _ = some (Value.int .i64 e.bits) := Blk.cell q4.e 6
  have c7 : _ = some (Value.int .i64 e.host) := Blk.cell q4.e 7
  have c8 : _ = some (Value.int .i64 e.guest) := Blk.cell q4.e 8
  have y2 : _ = some (Value.bool A.sum) := Blk.cell a4 2
  have y3 : _ = some (Value.bool A.mxr) := Blk.cell a4 3
  have hb := PB
  unfold Hid at hb
  have hy := PY
  unfold Hid at hy
  go_wp2_with (first | (go_at_call 42; refine (pmay_c (hT.kept q4.k).r _ _ _ _ _).mono ?_; rintro r w5 ⟨rfl, k5⟩; rw [hy]; have q5 := q4.kept k5; have d7 : _ = some (Value.int .i64 e.host) := Blk.cell q5.e 7; have d8 : _ = some (Value.int .i64 e.guest) := Blk.cell q5.e 8) | (go_at_call 30; refine (hft _).mono ?_; rintro r w7 ⟨rfl, k7⟩) | (refine wpList_store_go rfl 38 _ _ rfl (w.heap.size + 1 + 1) (fltA F).toArray rfl rfl (q5.kept k7).f (flt_size' _) ((flt_len _).trans (flt_len _).symm) (flt_ones' _) ?_; intro w8 o8 f8))
  have k9 : Kept w w8 := (q5.kept k7).k.new o8 fun i hi => by omega
  refine bodyPost_ret (results_cell2 rfl _ _ _ _ _ rfl (load_list w8 _ _ (fltA F).toArray.toList _ f8.all Tryd.underlying38 rfl (flt_size' _))) rfl ⟨rfl, k9⟩
set_option maxRecDepth 100000 in
set_option maxHeartbeats 4000000 in
theorem allow_nx (hT : Tab12 w) {level : Int} {v : Bool} (hA : AskAll w S level v A) (e : EntM) (at_ k : Int) (hk : k = 0 ∨ k = 1 ∨ k = 2) (hat : U at_) (he : 0 ≤ e.guest ∧ e.guest < 256) (PB : Hid ((e.bits != 255) = false)) (PH : Hid ((e.host != 255) = true)) (PZ : Hid (mayE e.host k true false false = false)) :
    Calls Tryd.prog 18 #[.agg (rowOf 65 (stF S)), .agg (entA e).toArray, .int .u64 at_, .int .i64 k, .int .i64 level, .bool v] w fun r w' => r = .returned (.tuple #[.agg (fltA (fltW 2 k at_ (e.guest * 256 + at_ % 256) v)).toArray, .bool false]) ∧ Kept w w' := by
  have r0 := alR_new w S e
  have hgU : U (e.guest * 256 + at_ % 256) := by unfold U; omega
  have hft := fun w1 => fault_c (w := w1) 2 k at_ (e.guest * 256 + at_ % 256) v (.inr (.inl rfl)) hk hgU
  generalize hF : (fltW 2 k at_ (e.guest * 256 + at_ % 256) v) = F at *
  clear hF
  go_enter Tryd.func18, Tryd.ntmps18
  go_upto_region 1 with (refine wpList_alloc_is rfl 38 rfl (fltA fltNone).toArray flt_zero' ?_)
  generalize (((w.alloc (.cells (rowOf 65 (stF S)) 27)).alloc (.cells (entA e).toArray 36)).alloc (.cells (fltA fltNone).toArray 38)) = w1 at r0 ⊢
  go_upto_region 2 with (first | (refine wpList_load_is (by rfl) 27 _ rfl rfl r0.s _ Tryd.underlying27 rfl st_size ?_) | (go_at_call 17; refine (hA.a _ r0.k).mono ?_; rintro r w2 ⟨rfl, k2⟩) | (refine wpList_alloc_go rfl 46 rfl (askA ask0) ask_zero' ?_; intro ab w3 n3 k3 m3 a3) | (refine wpList_store_go rfl 46 _ _ rfl ab (askA A) rfl rfl a3 (ask_sz12 _) ((ask_len _).trans (ask_len _).symm) (ask_on12 _) ?_; intro w4 o4 a4))
  have l0 := Blk.lt r0.f
  have l2 := k2.size
  have q4 : AlR w w4 S e := ((r0.kept k2).kept k3).past o4 fun i hi => by omega
  clear r0 k2 k3 o4 a3 l0 l2 n3 m3 hA
  have c6 : _ = some (Value.int .i64 e.bits) := Blk.cell q4.e 6
  have c7 : _ = some (Value.int .i64 e.host) := Blk.cell q4.e 7
  have c8 : _ = some (Value.int .i64 e.guest) := Blk.cell q4.e 8
  have y2 : _ = some (Value.bool A.sum) := Blk.cell a4 2
  have y3 : _ = some (Value.bool A.mxr) := Blk.cell a4 3
  have hb := PB
  unfold Hid at hb
  have hh := PH
  unfold Hid at hh
  have hz := PZ
  unfold Hid at hz
  go_upto_region 4 with fail
  go_wp2_with (first | (go_at_call 43; refine (hostlets_c (hT.kept q4.k) _ _).mono ?_; rintro r w6 ⟨rfl, k6⟩; rw [hz]; have q6 := q4.kept k6; have g8 : _ = some (Value.int .i64 e.guest) := Blk.cell q6.e 8) | (go_at_call 44; refine (placein_c hat he.1 (by omega)).mono ?_; rintro r wy ⟨rfl, hwy⟩; rw [hwy]; clear hwy wy) | (go_at_call 30; refine (hft _).mono ?_; rintro r w7 ⟨rfl, k7⟩) | (refine wpList_store_go rfl 38 _ _ rfl (w.heap.size + 1 + 1) (fltA F).toArray rfl rfl (q6.kept k7).f (flt_size' _) ((flt_len _).trans (flt_len _).symm) (flt_ones' _) ?_; intro w8 o8 f8))
  have k9 : Kept w w8 := (q6.kept k7).k.new o8 fun i hi => by omega
  refine bodyPost_ret (results_cell2 rfl _ _ _ _ _ rfl (load_list w8 _ _ (fltA F).toArray.toList _ f8.all Tryd.underlying38 rfl (flt_size' _))) rfl ⟨rfl, k9⟩
set_option maxRecDepth 100000 in
set_option maxHeartbeats 4000000 in
theorem allow_nn (_ : Tab12 w) {level : Int} {v : Bool} (hA : AskAll w S level v A) (e : EntM) (at_ k : Int) (PB : Hid ((e.bits != 255) = false)) (PH : Hid ((e.host != 255) = false)) :
    Calls Tryd.prog 18 #[.agg (rowOf 65 (stF S)), .agg (entA e).toArray, .int .u64 at_, .int .i64 k, .int .i64 level, .bool v] w fun r w' => r = .returned (.tuple #[.agg (fltA fltNone).toArray, .bool true]) ∧ Kept w w' := by
  have r0 := alR_new w S e
  go_enter Tryd.func18, Tryd.ntmps18
  go_upto_region 1 with (refine wpList_alloc_is rfl 38 rfl (fltA fltNone).toArray flt_zero' ?_)
  generalize (((w.alloc (.cells (rowOf 65 (stF S)) 27)).alloc (.cells (entA e).toArray 36)).alloc (.cells (fltA fltNone).toArray 38)) = w1 at r0 ⊢
  go_upto_region 2 with (first | (refine wpList_load_is (by rfl) 27 _ rfl rfl r0.s _ Tryd.underlying27 rfl st_size ?_) | (go_at_call 17; refine (hA.a _ r0.k).mono ?_; rintro r w2 ⟨rfl, k2⟩) | (refine wpList_alloc_go rfl 46 rfl (askA ask0) ask_zero' ?_; intro ab w3 n3 k3 m3 a3) | (refine wpList_store_go rfl 46 _ _ rfl ab (askA A) rfl rfl a3 (ask_sz12 _) ((ask_len _).trans (ask_len _).symm) (ask_on12 _) ?_; intro w4 o4 a4))
  have l0 := Blk.lt r0.f
  have l2 := k2.size
  have q4 : AlR w w4 S e := ((r0.kept k2).kept k3).past o4 fun i hi => by omega
  clear r0 k2 k3 o4 a3 l0 l2 n3 m3 hA
  have c6 : _ = some (Value.int .i64 e.bits) := Blk.cell q4.e 6
  have c7 : _ = some (Value.int .i64 e.host) := Blk.cell q4.e 7
  have c8 : _ = some (Value.int .i64 e.guest) := Blk.cell q4.e 8
  have y2 : _ = some (Value.bool A.sum) := Blk.cell a4 2
  have y3 : _ = some (Value.bool A.mxr) := Blk.cell a4 3
  have hb := PB
  unfold Hid at hb
  have hh := PH
  unfold Hid at hh
  go_upto_region 6 with fail
  go_wp2_with (first | (refine wpList_built_is (by rfl) 38 #[] rfl (fltA fltNone).toArray (by kernel_rfl) ?_) | (refine wpList_store_go rfl 38 _ _ rfl (w.heap.size + 1 + 1) (fltA fltNone).toArray rfl rfl q4.f (flt_size' _) ((flt_len _).trans (flt_len _).symm) (flt_ones' _) ?_; intro w8 o8 f8))
  have k9 : Kept w w8 := q4.k.new o8 fun i hi => by omega
  refine bodyPost_ret (results_cell2 rfl _ _ _ _ _ rfl (load_list w8 _ _ (fltA fltNone).toArray.toList _ f8.all Tryd.underlying38 rfl (flt_size' _))) rfl ⟨rfl, k9⟩
set_option maxRecDepth 100000 in
set_option maxHeartbeats 4000000 in
theorem allow_ny (hT : Tab12 w) {level : Int} {v : Bool} (hA : AskAll w S level v A) (e : EntM) (at_ k : Int) (PB : Hid ((e.bits != 255) = false)) (PH : Hid ((e.host != 255) = true)) (PZ : Hid (mayE e.host k true false false = true)) :
    Calls Tryd.prog 18 #[.agg (rowOf 65 (stF S)), .agg (entA e).toArray, .int .u64 at_, .int .i64 k, .int .i64 level, .bool v] w fun r w' => r = .returned (.tuple #[.agg (fltA fltNone).toArray, .bool true]) ∧ Kept w w' := by
  have r0 := alR_new w S e
  go_enter Tryd.func18, Tryd.ntmps18
  go_upto_region 1 with (refine wpList_alloc_is rfl 38 rfl (fltA fltNone).toArray flt_zero' ?_)
  generalize (((w.alloc (.cells (rowOf 65 (stF S)) 27)).alloc (.cells (entA e).toArray 36)).alloc (.cells (fltA fltNone).toArray 38)) = w1 at r0 ⊢
  go_upto_region 2 with (first | (refine wpList_load_is (by rfl) 27 _ rfl rfl r0.s _ Tryd.underlying27 rfl st_size ?_) | (go_at_call 17; refine (hA.a _ r0.k).mono ?_; rintro r w2 ⟨rfl, k2⟩) | (refine wpList_alloc_go rfl 46 rfl (askA ask0) ask_zero' ?_; intro ab w3 n3 k3 m3 a3) | (refine wpList_store_go rfl 46 _ _ rfl ab (askA A) rfl rfl a3 (ask_sz12 _) ((ask_len _).trans (ask_len _).symm) (ask_on12 _) ?_; intro w4 o4 a4))
  have l0 := Blk.lt r0.f
  have l2 := k2.size
  have q4 : AlR w w4 S e := ((r0.kept k2).kept k3).past o4 fun i hi => by omega
  clear r0 k2 k3 o4 a3 l0 l2 n3 m3 hA
  have c6 : _ = some (Value.int .i64 e.bits) := Blk.cell q4.e 6
  have c7 : _ = some (Value.int .i64 e.host) := Blk.cell q4.e 7
  have c8 : _ = some (Value.int .i64 e.guest) := Blk.cell q4.e 8
  have y2 : _ = some (Value.bool A.sum) := Blk.cell a4 2
  have y3 : _ = some (Value.bool A.mxr) := Blk.cell a4 3
  have hb := PB
  unfold Hid at hb
  have hh := PH
  unfold Hid at hh
  have hz := PZ
  unfold Hid at hz
  go_upto_region 4 with fail
  go_wp2_with (first | (go_at_call 43; refine (hostlets_c (hT.kept q4.k) _ _).mono ?_; rintro r w6 ⟨rfl, k6⟩; rw [hz]; have q6 := q4.kept k6; have g8 : _ = some (Value.int .i64 e.guest) := Blk.cell q6.e 8) | (refine wpList_built_is (by rfl) 38 #[] rfl (fltA fltNone).toArray (by kernel_rfl) ?_) | (refine wpList_store_go rfl 38 _ _ rfl (w.heap.size + 1 + 1) (fltA fltNone).toArray rfl rfl q6.f (flt_size' _) ((flt_len _).trans (flt_len _).symm) (flt_ones' _) ?_; intro w8 o8 f8))
  have k9 : Kept w w8 := q6.k.new o8 fun i hi => by omega
  refine bodyPost_ret (results_cell2 rfl _ _ _ _ _ rfl (load_list w8 _ _ (fltA fltNone).toArray.toList _ f8.all Tryd.underlying38 rfl (flt_size' _))) rfl ⟨rfl, k9⟩
set_option maxRecDepth 100000 in
set_option maxHeartbeats 4000000 in
theorem allow_yx (hT : Tab12 w) {level : Int} {v : Bool} (hA : AskAll w S level v A) (e : EntM) (at_ k : Int) (hk : k = 0 ∨ k = 1 ∨ k = 2) (hat : U at_) (he : 0 ≤ e.guest ∧ e.guest < 256) (PB : Hid ((e.bits != 255) = true)) (PY : Hid (mayE e.bits k (level == 0) A.sum A.mxr = true)) (PH : Hid ((e.host != 255) = true)) (PZ : Hid (mayE e.host k true false false = false)) :
    Calls Tryd.prog 18 #[.agg (rowOf 65 (stF S)), .agg (entA e).toArray, .int .u64 at_, .int .i64 k, .int .i64 level, .bool v] w fun r w' => r = .returned (.tuple #[.agg (fltA (fltW 2 k at_ (e.guest * 256 + at_ % 256) v)).toArray, .bool false]) ∧ Kept w w' := by
  have r0 := alR_new w S e
  have hgU : U (e.guest * 256 + at_ % 256) := by unfold U; omega
  have hft := fun w1 => fault_c (w := w1) 2 k at_ (e.guest * 256 + at_ % 256) v (.inr (.inl rfl)) hk hgU
  generalize hF : (fltW 2 k at_ (e.guest * 256 + at_ % 256) v) = F at *
  clear hF
  go_enter Tryd.func18, Tryd.ntmps18
  go_upto_region 1 with (refine wpList_alloc_is rfl 38 rfl (fltA fltNone).toArray flt_zero' ?_)
  generalize (((w.alloc (.cells (rowOf 65 (stF S)) 27)).alloc (.cells (entA e).toArray 36)).alloc (.cells (fltA fltNone).toArray 38)) = w1 at r0 ⊢
  go_upto_region 2 with (first | (refine wpList_load_is (by rfl) 27 _ rfl rfl r0.s _ Tryd.underlying27 rfl st_size ?_) | (go_at_call 17; refine (hA.a _ r0.k).mono ?_; rintro r w2 ⟨rfl, k2⟩) | (refine wpList_alloc_go rfl 46 rfl (askA ask0) ask_zero' ?_; intro ab w3 n3 k3 m3 a3) | (refine wpList_store_go rfl 46 _ _ rfl ab (askA A) rfl rfl a3 (ask_sz12 _) ((ask_len _).trans (ask_len _).symm) (ask_on12 _) ?_; intro w4 o4 a4))
  have l0 := Blk.lt r0.f
  have l2 := k2.size
  have q4 : AlR w w4 S e := ((r0.kept k2).kept k3).past o4 fun i hi => by omega
  clear r0 k2 k3 o4 a3 l0 l2 n3 m3 hA
  have c6 : _ = some (Value.int .i64 e.bits) := Blk.cell q4.e 6
  have c7 : _ = some (Value.int .i64 e.host) := Blk.cell q4.e 7
  have c8 : _ = some (Value.int .i64 e.guest) := Blk.cell q4.e 8
  have y2 : _ = some (Value.bool A.sum) := Blk.cell a4 2
  have y3 : _ = some (Value.bool A.mxr) := Blk.cell a4 3
  have hb := PB
  unfold Hid at hb
  have hy := PY
  unfold Hid at hy
  have hh := PH
  unfold Hid at hh
  have hz := PZ
  unfold Hid at hz
  go_wp2_with (first | (go_at_call 42; refine (pmay_c (hT.kept q4.k).r _ _ _ _ _).mono ?_; rintro r w5 ⟨rfl, k5⟩; rw [hy]; have q5 := q4.kept k5; have d7 : _ = some (Value.int .i64 e.host) := Blk.cell q5.e 7; have d8 : _ = some (Value.int .i64 e.guest) := Blk.cell q5.e 8) | (go_at_call 43; refine (hostlets_c (hT.kept q5.k) _ _).mono ?_; rintro r w6 ⟨rfl, k6⟩; rw [hz]; have q6 := q5.kept k6; have g8 : _ = some (Value.int .i64 e.guest) := Blk.cell q6.e 8) | (go_at_call 44; refine (placein_c hat he.1 (by omega)).mono ?_; rintro r wy ⟨rfl, hwy⟩; rw [hwy]; clear hwy wy) | (go_at_call 30; refine (hft _).mono ?_; rintro r w7 ⟨rfl, k7⟩) | (refine wpList_store_go rfl 38 _ _ rfl (w.heap.size + 1 + 1) (fltA F).toArray rfl rfl (q6.kept k7).f (flt_size' _) ((flt_len _).trans (flt_len _).symm) (flt_ones' _) ?_; intro w8 o8 f8))
  have k9 : Kept w w8 := (q6.kept k7).k.new o8 fun i hi => by omega
  refine bodyPost_ret (results_cell2 rfl _ _ _ _ _ rfl (load_list w8 _ _ (fltA F).toArray.toList _ f8.all Tryd.underlying38 rfl (flt_size' _))) rfl ⟨rfl, k9⟩
set_option maxRecDepth 100000 in
set_option maxHeartbeats 4000000 in
theorem allow_yn (hT : Tab12 w) {level : Int} {v : Bool} (hA : AskAll w S level v A) (e : EntM) (at_ k : Int) (PB : Hid ((e.bits != 255) = true)) (PY : Hid (mayE e.bits k (level == 0) A.sum A.mxr = true)) (PH : Hid ((e.host != 255) = false)) :
    Calls Tryd.prog 18 #[.agg (rowOf 65 (stF S)), .agg (entA e).toArray, .int .u64 at_, .int .i64 k, .int .i64 level, .bool v] w fun r w' => r = .returned (.tuple #[.agg (fltA fltNone).toArray, .bool true]) ∧ Kept w w' := by
  have r0 := alR_new w S e
  go_enter Tryd.func18, Tryd.ntmps18
  go_upto_region 1 with (refine wpList_alloc_is rfl 38 rfl (fltA fltNone).toArray flt_zero' ?_)
  generalize (((w.alloc (.cells (rowOf 65 (stF S)) 27)).alloc (.cells (entA e).toArray 36)).alloc (.cells (fltA fltNone).toArray 38)) = w1 at r0 ⊢
  go_upto_region 2 with (first | (refine wpList_load_is (by rfl) 27 _ rfl rfl r0.s _ Tryd.underlying27 rfl st_size ?_) | (go_at_call 17; refine (hA.a _ r0.k).mono ?_; rintro r w2 ⟨rfl, k2⟩) | (refine wpList_alloc_go rfl 46 rfl (askA ask0) ask_zero' ?_; intro ab w3 n3 k3 m3 a3) | (refine wpList_store_go rfl 46 _ _ rfl ab (askA A) rfl rfl a3 (ask_sz12 _) ((ask_len _).trans (ask_len _).symm) (ask_on12 _) ?_; intro w4 o4 a4))
  have l0 := Blk.lt r0.f
  have l2 := k2.size
  have q4 : AlR w w4 S e := ((r0.kept k2).kept k3).past o4 fun i hi => by omega
  clear r0 k2 k3 o4 a3 l0 l2 n3 m3 hA
  have c6 : _ = some (Value.int .i64 e.bits) := Blk.cell q4.e 6
  have c7 : _ = some (Value.int .i64 e.host) := Blk.cell q4.e 7
  have c8 : _ = some (Value.int .i64 e.guest) := Blk.cell q4.e 8
  have y2 : _ = some (Value.bool A.sum) := Blk.cell a4 2
  have y3 : _ = some (Value.bool A.mxr) := Blk.cell a4 3
  have hb := PB
  unfold Hid at hb
  have hy := PY
  unfold Hid at hy
  have hh := PH
  unfold Hid at hh
  go_wp2_with (first | (go_at_call 42; refine (pmay_c (hT.kept q4.k).r _ _ _ _ _).mono ?_; rintro r w5 ⟨rfl, k5⟩; rw [hy]; have q5 := q4.kept k5; have d7 : _ = some (Value.int .i64 e.host) := Blk.cell q5.e 7; have d8 : _ = some (Value.int .i64 e.guest) := Blk.cell q5.e 8) | (refine wpList_built_is (by rfl) 38 #[] rfl (fltA fltNone).toArray (by kernel_rfl) ?_) | (refine wpList_store_go rfl 38 _ _ rfl (w.heap.size + 1 + 1) (fltA fltNone).toArray rfl rfl q5.f (flt_size' _) ((flt_len _).trans (flt_len _).symm) (flt_ones' _) ?_; intro w8 o8 f8))
  have k9 : Kept w w8 := q5.k.new o8 fun i hi => by omega
  refine bodyPost_ret (results_cell2 rfl _ _ _ _ _ rfl (load_list w8 _ _ (fltA fltNone).toArray.toList _ f8.all Tryd.underlying38 rfl (flt_size' _))) rfl ⟨rfl, k9⟩
set_option maxRecDepth 100000 in
set_option maxHeartbeats 4000000 in
theorem allow_yy (hT : Tab12 w) {level : Int} {v : Bool} (hA : AskAll w S level v A) (e : EntM) (at_ k : Int) (PB : Hid ((e.bits != 255) = true)) (PY : Hid (mayE e.bits k (level == 0) A.sum A.mxr = true)) (PH : Hid ((e.host != 255) = true)) (PZ : Hid (mayE e.host k true false false = true)) :
    Calls Tryd.prog 18 #[.agg (rowOf 65 (stF S)), .agg (entA e).toArray, .int .u64 at_, .int .i64 k, .int .i64 level, .bool v] w fun r w' => r = .returned (.tuple #[.agg (fltA fltNone).toArray, .bool true]) ∧ Kept w w' := by
  have r0 := alR_new w S e
  go_enter Tryd.func18, Tryd.ntmps18
  go_upto_region 1 with (refine wpList_alloc_is rfl 38 rfl (fltA fltNone).toArray flt_zero' ?_)
  generalize (((w.alloc (.cells (rowOf 65 (stF S)) 27)).alloc (.cells (entA e).toArray 36)).alloc (.cells (fltA fltNone).toArray 38)) = w1 at r0 ⊢
  go_upto_region 2 with (first | (refine wpList_load_is (by rfl) 27 _ rfl rfl r0.s _ Tryd.underlying27 rfl st_size ?_) | (go_at_call 17; refine (hA.a _ r0.k).mono ?_; rintro r w2 ⟨rfl, k2⟩) | (refine wpList_alloc_go rfl 46 rfl (askA ask0) ask_zero' ?_; intro ab w3 n3 k3 m3 a3) | (refine wpList_store_go rfl 46 _ _ rfl ab (askA A) rfl rfl a3 (ask_sz12 _) ((ask_len _).trans (ask_len _).symm) (ask_on12 _) ?_; intro w4 o4 a4))
  have l0 := Blk.lt r0.f
  have l2 := k2.size
  have q4 : AlR w w4 S e := ((r0.kept k2).kept k3).past o4 fun i hi => by omega
  clear r0 k2 k3 o4 a3 l0 l2 n3 m3 hA
  have c6 : _ = some (Value.int .i64 e.bits) := Blk.cell q4.e 6
  have c7 : _ = some (Value.int .i64 e.host) := Blk.cell q4.e 7
  have c8 : _ = some (Value.int .i64 e.guest) := Blk.cell q4.e 8
  have y2 : _ = some (Value.bool A.sum) := Blk.cell a4 2
  have y3 : _ = some (Value.bool A.mxr) := Blk.cell a4 3
  have hb := PB
  unfold Hid at hb
  have hy := PY
  unfold Hid at hy
  have hh := PH
  unfold Hid at hh
  have hz := PZ
  unfold Hid at hz
  go_wp2_with (first | (go_at_call 42; refine (pmay_c (hT.kept q4.k).r _ _ _ _ _).mono ?_; rintro r w5 ⟨rfl, k5⟩; rw [hy]; have q5 := q4.kept k5; have d7 : _ = some (Value.int .i64 e.host) := Blk.cell q5.e 7; have d8 : _ = some (Value.int .i64 e.guest) := Blk.cell q5.e 8) | (go_at_call 43; refine (hostlets_c (hT.kept q5.k) _ _).mono ?_; rintro r w6 ⟨rfl, k6⟩; rw [hz]; have q6 := q5.kept k6; have g8 : _ = some (Value.int .i64 e.guest) := Blk.cell q6.e 8) | (refine wpList_built_is (by rfl) 38 #[] rfl (fltA fltNone).toArray (by kernel_rfl) ?_) | (refine wpList_store_go rfl 38 _ _ rfl (w.heap.size + 1 + 1) (fltA fltNone).toArray rfl rfl q6.f (flt_size' _) ((flt_len _).trans (flt_len _).symm) (flt_ones' _) ?_; intro w8 o8 f8))
  have k9 : Kept w w8 := q6.k.new o8 fun i hi => by omega
  refine bodyPost_ret (results_cell2 rfl _ _ _ _ _ rfl (load_list w8 _ _ (fltA fltNone).toArray.toList _ f8.all Tryd.underlying38 rfl (flt_size' _))) rfl ⟨rfl, k9⟩
theorem tallow_any (hT : Tab12 w) (hS : S.Ok) (e : EntM) (he : e.Ok) (at_ k level : Int) (v : Bool) (hk : k = 0 ∨ k = 1 ∨ k = 2) (hat : U at_) :
    Calls Tryd.prog 18 #[.agg (rowOf 65 (stF S)), .agg (entA e).toArray, .int .u64 at_, .int .i64 k, .int .i64 level, .bool v] w fun r w' => r = .returned (.tuple #[.agg (fltA (alwS S e at_ k level v).f).toArray, .bool (alwS S e at_ k level v).ok]) ∧ Kept w w' := by
  have hA : AskAll w S level v (askS S level v) := ⟨fun w1 k1 => task_any (hT.kept k1) hS level v⟩
  unfold alwS
  cases hb : (e.bits != 255)
  · have hb' : e.bits = 255 := bne_eq_false_iff_eq.1 hb
    rw [if_neg (fun x => x.1 hb')]
    cases hh : (e.host != 255)
    · have hh' : e.host = 255 := bne_eq_false_iff_eq.1 hh
      rw [if_neg (fun x => x.1 hh')]
      exact allow_nn hT hA e at_ k hb hh
    · have hh' : ¬ e.host = 255 := bne_iff_ne.1 hh
      cases hz : mayE e.host k true false false
      · rw [if_pos ⟨hh', rfl⟩]
        exact allow_nx hT hA e at_ k hk hat he.guest hb hh hz
      · rw [if_neg (fun x => Bool.noConfusion x.2)]
        exact allow_ny hT hA e at_ k hb hh hz
  · have hb' : ¬ e.bits = 255 := bne_iff_ne.1 hb
    cases hy : mayE e.bits k (level == 0) (askS S level v).sum (askS S level v).mxr
    · rw [if_pos ⟨hb', rfl⟩]
      exact allow_page hT hA e at_ k hk hb hy
    · rw [if_neg (fun x => Bool.noConfusion x.2)]
      cases hh : (e.host != 255)
      · have hh' : e.host = 255 := bne_eq_false_iff_eq.1 hh
        rw [if_neg (fun x => x.1 hh')]
        exact allow_yn hT hA e at_ k hb hy hh
      · have hh' : ¬ e.host = 255 := bne_iff_ne.1 hh
        cases hz : mayE e.host k true false false
        · rw [if_pos ⟨hh', rfl⟩]
          exact allow_yx hT hA e at_ k hk hat he.guest hb hy hh hz
        · rw [if_neg (fun x => Bool.noConfusion x.2)]
          exact allow_yy hT hA e at_ k hb hy hh hz
end
end Go.Proofs.YtpplclenokfpeaaDoor
