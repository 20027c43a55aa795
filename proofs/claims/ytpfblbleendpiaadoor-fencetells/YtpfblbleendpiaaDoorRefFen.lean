/-
  What must be walked anew, as the document's own calls answer (named, Sfence, Host of the reference): walked whole, for every argument.
-/
import Derived.Test.YtpfblbleendpiaaDoorFenDoc
import Derived.Test.YtpfblbleendpiaaDoorRefTl
import Derived.Test.YtpfblbleendpiaaDoorPteDoc
namespace Go.Proofs.YtpfblbleendpiaaDoor
open Go.RowKit
theorem rnamed_of (n want : Int) (w : World) :
    Calls Tryd.prog 23 #[.int .i64 n, .int .i64 want] w fun e w' => e = .returned (.bool (namB n want)) ∧ w' = w := by
  unfold namB
  cases h1 : (want == -1) <;> cases h2 : (n == want)
  all_goals
    go_enter Tryd.func23, Tryd.ntmps23
    go_wp2
    go_ret
    exact ⟨rfl, rfl⟩
section
variable {w : World} {b : Nat} {T : Nat → EntM}
theorem run_cells9 (h : TlAt w b T) {k : Nat} (hk : k < 16) (e : EntM) : (storeCells ⟨b, k * 9, none⟩ (entA e)).run Tryd.prog w = .ok () (w.setCells b (k * 9) (entA e)) := by
  have hth := h.there hk
  have := run_storeCells_cells (P := Tryd.prog) b (k * 9) (entA e) 0 w (fun j hj => by simpa using (hth j hj).1) (fun j hj => by simpa using (hth j hj).2) (fun v hv => (Array.all_eq_true_iff_forall_mem.1 (ent_ones' e)) v (by simpa using hv))
  simpa using this
set_option maxRecDepth 10000 in
set_option maxHeartbeats 16000000 in
theorem rsfence_any (ht : TlAt w b T) {S : StM} (hS : S.Ok) (v : Bool) (page asid : Int) :
    Calls Tryd.prog 8 #[.pointer (some ⟨b, 0, none⟩), .agg (rowOf 65 (stF S)), .bool v, .int .i64 page, .int .i64 asid] w fun r w' => r = .returned (.int .i64 (cntT (sfeB S v page asid) T : Nat)) ∧ TlAt w' b (wipeT (sfeB S v page asid) T) ∧ Only (fun i => i = b) w w' := by
  unfold cntT wipeT
  have s0 := st_new w S
  have kb : Kept w (w.alloc (.cells (rowOf 65 (stF S)) 27)) := (Only.refl _ w).alloc _
  have u0 := (hS.C 21 (by omega)).1
  have ea : bits .and .u64 (S.C 21 / 65536) 255 = S.C 21 / 65536 % 256 := u_low (S.C 21 / 65536) 8 (by omega) 255 rfl
  have v0 : 0 ≤ S.C 21 / 65536 % 256 := by omega
  have v1 : S.C 21 / 65536 % 256 < 256 := by omega
  obtain ⟨P, hP⟩ : ∃ P : EntM → Bool, sfeB S v page asid = P := ⟨_, rfl⟩
  rw [hP]
  have hPx : ∀ x, sfeB S v page asid x = P x := fun x => by rw [hP]
  clear hP
  go_enter Tryd.func8, Tryd.ntmps8
  have hne : w.heap.size ≠ b := by have := ht.lt; omega
  go_upto_region 1 with fail
  generalize hw1 : w.alloc (.cells (rowOf 65 (stF S)) 27) = w1 at s0 kb ⊢
  generalize w.heap.size = sb at s0 hne ⊢
  clear hw1
  have hsb : sb ≠ b := hne
  go_wp2_with fail
  go_loopw [12, 11] (fun k n wr => ∃ K : Nat, K ≤ 16 ∧ k = .int .i64 (K : Int) ∧ n = .int .i64 (cntK P T K : Nat) ∧ TlAt wr b (wipeK P T K) ∧ Only (fun i => i = b) w1 wr) (fun k _ _ => 16 - (intOf k).toNat)
  case atStart => exact ⟨0, by omega, rfl, rfl, by rw [wipe_0]; exact ht.kept kb, Only.refl _ _⟩
  case round =>
    obtain ⟨k, hk, rfl, rfl, hT, hg⟩ := hrel
    have hcl := cnt_le P T k
    by_cases hlt : k < 16
    · have hlt' : (k : Int) < 16 := by omega
      have hk0 : (0 : Int) ≤ (k : Int) := by omega
      have hr := hT.at_ k hlt
      rw [wipe_at] at hr
      have hy := wipe_yes (P := P) (T := T) (k := k)
      have hno := wipe_no (P := P) (T := T) (k := k)
      have hPk := (hPx (T k)).symm
      generalize T k = e at *
      generalize cntK P T k = c at *
      have hkeep : k < 16 := hlt
      have c0 : (0 : Int) ≤ (c : Int) := by omega
      have c9 : (c : Int) ≤ 16 := by omega
      have c21 := StAt.c (World.rowIs.of_block s0 (hg.same _ (World.rowIs.lt s0) hsb)) (i := 21) (by omega)
      cases hv : e.valid
      · have hz : P e = false := by rw [hPk]; unfold sfeB vmI; simp [hv]
        go_upto_region 6 with (first | (refine wpList_load_mid rfl 47 _ rfl b (k * 9) rfl (entA e) _ hr Tryd.underlying47 rfl (ent_size' _) ?_) | (refine wpList_alloc_go rfl 47 rfl (entA entNone).toArray ent_zero' ?_; intro eb wa na ka ma ba) | (refine wpList_store_go rfl 47 _ _ rfl eb (entA e).toArray rfl rfl ba (ent_size' _) ((ent_len _).trans (ent_len _).symm) (ent_ones' _) ?_; intro wb ob bb))
        have kx : Kept wr wb := ka.new ob fun i hi => by omega
        have hTb := hT.kept kx
        have hgb : Only (fun i => i = b) w1 wb := hg.then kx
        have d21 := kx.cell c21
        clear hr ka ba ob kx c21
        have y0 : _ = some (Value.bool e.valid) := bb.cell 0
        have y1 : _ = some (Value.bool e.v) := bb.cell 1
        have y2 : _ = some (Value.int .i64 e.page) := bb.cell 2
        have y3 : _ = some (Value.int .i64 e.asid) := bb.cell 3
        have y4 : _ = some (Value.int .i64 e.vmid) := bb.cell 4
        rw [hv] at y0
        go_wp2_with fail
        exact ⟨⟨k + 1, by omega, by go_num, by rw [(hno hz).2], by rw [(hno hz).1]; exact hTb, hgb⟩, by simp [intOf]; omega⟩
      · cases hq : (e.v == v)
        · have hz : P e = false := by rw [hPk]; unfold sfeB vmI; simp [hq]
          go_upto_region 6 with (first | (refine wpList_load_mid rfl 47 _ rfl b (k * 9) rfl (entA e) _ hr Tryd.underlying47 rfl (ent_size' _) ?_) | (refine wpList_alloc_go rfl 47 rfl (entA entNone).toArray ent_zero' ?_; intro eb wa na ka ma ba) | (refine wpList_store_go rfl 47 _ _ rfl eb (entA e).toArray rfl rfl ba (ent_size' _) ((ent_len _).trans (ent_len _).symm) (ent_ones' _) ?_; intro wb ob bb))
          have kx : Kept wr wb := ka.new ob fun i hi => by omega
          have hTb := hT.kept kx
          have hgb : Only (fun i => i = b) w1 wb := hg.then kx
          have d21 := kx.cell c21
          clear hr ka ba ob kx c21
          have y0 : _ = some (Value.bool e.valid) := bb.cell 0
          have y1 : _ = some (Value.bool e.v) := bb.cell 1
          have y2 : _ = some (Value.int .i64 e.page) := bb.cell 2
          have y3 : _ = some (Value.int .i64 e.asid) := bb.cell 3
          have y4 : _ = some (Value.int .i64 e.vmid) := bb.cell 4
          rw [hv] at y0
          go_wp2_with fail
          exact ⟨⟨k + 1, by omega, by go_num, by rw [(hno hz).2], by rw [(hno hz).1]; exact hTb, hgb⟩, by simp [intOf]; omega⟩
        · cases hp : namB e.page page
          · have hz : P e = false := by rw [hPk]; unfold sfeB vmI; simp [hp]
            go_upto_region 6 with (first | (refine wpList_load_mid rfl 47 _ rfl b (k * 9) rfl (entA e) _ hr Tryd.underlying47 rfl (ent_size' _) ?_) | (refine wpList_alloc_go rfl 47 rfl (entA entNone).toArray ent_zero' ?_; intro eb wa na ka ma ba) | (refine wpList_store_go rfl 47 _ _ rfl eb (entA e).toArray rfl rfl ba (ent_size' _) ((ent_len _).trans (ent_len _).symm) (ent_ones' _) ?_; intro wb ob bb))
            have kx : Kept wr wb := ka.new ob fun i hi => by omega
            have hTb := hT.kept kx
            have hgb : Only (fun i => i = b) w1 wb := hg.then kx
            have d21 := kx.cell c21
            clear hr ka ba ob kx c21
            have y0 : _ = some (Value.bool e.valid) := bb.cell 0
            have y1 : _ = some (Value.bool e.v) := bb.cell 1
            have y2 : _ = some (Value.int .i64 e.page) := bb.cell 2
            have y3 : _ = some (Value.int .i64 e.asid) := bb.cell 3
            have y4 : _ = some (Value.int .i64 e.vmid) := bb.cell 4
            rw [hv] at y0
            go_wp2_with (go_at_call 23; refine (rnamed_of _ _ _).mono ?_; rintro r wy ⟨rfl, hwy⟩; rw [hwy]; clear hwy wy; rw [hp])
            exact ⟨⟨k + 1, by omega, by go_num, by rw [(hno hz).2], by rw [(hno hz).1]; exact hTb, hgb⟩, by simp [intOf]; omega⟩
          · cases ha : namB e.asid asid
            · have hz : P e = false := by rw [hPk]; unfold sfeB vmI; simp [ha]
              go_upto_region 6 with (first | (refine wpList_load_mid rfl 47 _ rfl b (k * 9) rfl (entA e) _ hr Tryd.underlying47 rfl (ent_size' _) ?_) | (refine wpList_alloc_go rfl 47 rfl (entA entNone).toArray ent_zero' ?_; intro eb wa na ka ma ba) | (refine wpList_store_go rfl 47 _ _ rfl eb (entA e).toArray rfl rfl ba (ent_size' _) ((ent_len _).trans (ent_len _).symm) (ent_ones' _) ?_; intro wb ob bb))
              have kx : Kept wr wb := ka.new ob fun i hi => by omega
              have hTb := hT.kept kx
              have hgb : Only (fun i => i = b) w1 wb := hg.then kx
              have d21 := kx.cell c21
              clear hr ka ba ob kx c21
              have y0 : _ = some (Value.bool e.valid) := bb.cell 0
              have y1 : _ = some (Value.bool e.v) := bb.cell 1
              have y2 : _ = some (Value.int .i64 e.page) := bb.cell 2
              have y3 : _ = some (Value.int .i64 e.asid) := bb.cell 3
              have y4 : _ = some (Value.int .i64 e.vmid) := bb.cell 4
              rw [hv] at y0
              go_wp2_with (go_at_call 23; refine (rnamed_of _ _ _).mono ?_; rintro r wy ⟨rfl, hwy⟩; rw [hwy]; clear hwy wy; first | rw [hp] | rw [ha])
              exact ⟨⟨k + 1, by omega, by go_num, by rw [(hno hz).2], by rw [(hno hz).1]; exact hTb, hgb⟩, by simp [intOf]; omega⟩
            · cases v
              · have hz : P e = true := by rw [hPk]; unfold sfeB vmI; simp [hv, hq, hp, ha]
                go_upto_region 6 with (first | (refine wpList_load_mid rfl 47 _ rfl b (k * 9) rfl (entA e) _ hr Tryd.underlying47 rfl (ent_size' _) ?_) | (refine wpList_alloc_go rfl 47 rfl (entA entNone).toArray ent_zero' ?_; intro eb wa na ka ma ba) | (refine wpList_store_go rfl 47 _ _ rfl eb (entA e).toArray rfl rfl ba (ent_size' _) ((ent_len _).trans (ent_len _).symm) (ent_ones' _) ?_; intro wb ob bb))
                have kx : Kept wr wb := ka.new ob fun i hi => by omega
                have hTb := hT.kept kx
                have hgb : Only (fun i => i = b) w1 wb := hg.then kx
                have d21 := kx.cell c21
                have hrb : wb.rangeAt b (k * 9) (entA e) := fun j v hv => kx.cell (hr j v hv)
                clear hr ka ba ob kx c21
                have y0 : _ = some (Value.bool e.valid) := bb.cell 0
                have y1 : _ = some (Value.bool e.v) := bb.cell 1
                have y2 : _ = some (Value.int .i64 e.page) := bb.cell 2
                have y3 : _ = some (Value.int .i64 e.asid) := bb.cell 3
                have y4 : _ = some (Value.int .i64 e.vmid) := bb.cell 4
                rw [hv] at y0
                have p0 := hrb 0 _ rfl
                have q0 := hTb.free (k * 9 + 0) (by omega)
                have p1 := hrb 1 _ rfl
                have q1 := hTb.free (k * 9 + 1) (by omega)
                have p2 := hrb 2 _ rfl
                have q2 := hTb.free (k * 9 + 2) (by omega)
                have p3 := hrb 3 _ rfl
                have q3 := hTb.free (k * 9 + 3) (by omega)
                have p4 := hrb 4 _ rfl
                have q4 := hTb.free (k * 9 + 4) (by omega)
                have p5 := hrb 5 _ rfl
                have q5 := hTb.free (k * 9 + 5) (by omega)
                have p6 := hrb 6 _ rfl
                have q6 := hTb.free (k * 9 + 6) (by omega)
                have p7 := hrb 7 _ rfl
                have q7 := hTb.free (k * 9 + 7) (by omega)
                have p8 := hrb 8 _ rfl
                have q8 := hTb.free (k * 9 + 8) (by omega)
                simp only [Nat.add_zero] at p0 q0
                clear hrb
                go_wp2_with (go_at_call 23; refine (rnamed_of _ _ _).mono ?_; rintro r wy ⟨rfl, hwy⟩; rw [hwy]; clear hwy wy; first | rw [hp] | rw [ha])
                exact ⟨⟨k + 1, by omega, by go_num, by rw [(hy hz).2, Int.natCast_add]; rfl, by rw [(hy hz).1]; exact hTb.set hlt entNone, hgb.trans (only_cells b (entA entNone) (k * 9) _)⟩, by simp [intOf]; omega⟩
              · cases hm : (e.vmid == S.C 21 / 65536 % 256)
                · have hz : P e = false := by rw [hPk]; unfold sfeB vmI; simp [hm]
                  go_upto_region 6 with (first | (refine wpList_load_mid rfl 47 _ rfl b (k * 9) rfl (entA e) _ hr Tryd.underlying47 rfl (ent_size' _) ?_) | (refine wpList_alloc_go rfl 47 rfl (entA entNone).toArray ent_zero' ?_; intro eb wa na ka ma ba) | (refine wpList_store_go rfl 47 _ _ rfl eb (entA e).toArray rfl rfl ba (ent_size' _) ((ent_len _).trans (ent_len _).symm) (ent_ones' _) ?_; intro wb ob bb))
                  have kx : Kept wr wb := ka.new ob fun i hi => by omega
                  have hTb := hT.kept kx
                  have hgb : Only (fun i => i = b) w1 wb := hg.then kx
                  have d21 := kx.cell c21
                  clear hr ka ba ob kx c21
                  have y0 : _ = some (Value.bool e.valid) := bb.cell 0
                  have y1 : _ = some (Value.bool e.v) := bb.cell 1
                  have y2 : _ = some (Value.int .i64 e.page) := bb.cell 2
                  have y3 : _ = some (Value.int .i64 e.asid) := bb.cell 3
                  have y4 : _ = some (Value.int .i64 e.vmid) := bb.cell 4
                  rw [hv] at y0
                  go_wp2_with (go_at_call 23; refine (rnamed_of _ _ _).mono ?_; rintro r wy ⟨rfl, hwy⟩; rw [hwy]; clear hwy wy; first | rw [hp] | rw [ha])
                  exact ⟨⟨k + 1, by omega, by go_num, by rw [(hno hz).2], by rw [(hno hz).1]; exact hTb, hgb⟩, by simp [intOf]; omega⟩
                · have hz : P e = true := by rw [hPk]; unfold sfeB vmI; simp [hv, hq, hp, ha, hm]
                  go_upto_region 6 with (first | (refine wpList_load_mid rfl 47 _ rfl b (k * 9) rfl (entA e) _ hr Tryd.underlying47 rfl (ent_size' _) ?_) | (refine wpList_alloc_go rfl 47 rfl (entA entNone).toArray ent_zero' ?_; intro eb wa na ka ma ba) | (refine wpList_store_go rfl 47 _ _ rfl eb (entA e).toArray rfl rfl ba (ent_size' _) ((ent_len _).trans (ent_len _).symm) (ent_ones' _) ?_; intro wb ob bb))
                  have kx : Kept wr wb := ka.new ob fun i hi => by omega
                  have hTb := hT.kept kx
                  have hgb : Only (fun i => i = b) w1 wb := hg.then kx
                  have d21 := kx.cell c21
                  clear hr ka ba ob kx c21
                  have y0 : _ = some (Value.bool e.valid) := bb.cell 0
                  have y1 : _ = some (Value.bool e.v) := bb.cell 1
                  have y2 : _ = some (Value.int .i64 e.page) := bb.cell 2
                  have y3 : _ = some (Value.int .i64 e.asid) := bb.cell 3
                  have y4 : _ = some (Value.int .i64 e.vmid) := bb.cell 4
                  rw [hv] at y0
                  have hs := run_cells9 hTb hlt entNone
                  go_wp2_with (first | (go_at_call 23; refine (rnamed_of _ _ _).mono ?_; rintro r wy ⟨rfl, hwy⟩; rw [hwy]; clear hwy wy; first | rw [hp] | rw [ha]) | (refine wpList_built rfl 47 #[] rfl (entA entNone).toArray (by kernel_rfl) ?_))
                  exact ⟨⟨k + 1, by omega, by go_num, by rw [(hy hz).2, Int.natCast_add]; rfl, by rw [(hy hz).1]; exact hTb.set hlt entNone, hgb.trans (only_cells b (entA entNone) (k * 9) _)⟩, by simp [intOf]; omega⟩
    · obtain rfl : k = 16 := by omega
      go_wp2_with fail
      go_ret
      exact ⟨rfl, hT, kb.then hg⟩
set_option maxRecDepth 10000 in
set_option maxHeartbeats 16000000 in
theorem rhost_any (ht : TlAt w b T) (frame vmid : Int) :
    Calls Tryd.prog 11 #[.pointer (some ⟨b, 0, none⟩), .int .i64 frame, .int .i64 vmid] w fun r w' => r = .returned (.int .i64 (cntT (hosB frame vmid) T : Nat)) ∧ TlAt w' b (wipeT (hosB frame vmid) T) ∧ Only (fun i => i = b) w w' := by
  unfold cntT wipeT
  obtain ⟨P, hP⟩ : ∃ P : EntM → Bool, hosB frame vmid = P := ⟨_, rfl⟩
  rw [hP]
  have hPx : ∀ x, hosB frame vmid x = P x := fun x => by rw [hP]
  clear hP
  go_enter Tryd.func11, Tryd.ntmps11
  go_wp2_with fail
  go_loopw [8, 7] (fun k n wr => ∃ K : Nat, K ≤ 16 ∧ k = .int .i64 (K : Int) ∧ n = .int .i64 (cntK P T K : Nat) ∧ TlAt wr b (wipeK P T K) ∧ Only (fun i => i = b) w wr) (fun k _ _ => 16 - (intOf k).toNat)
  case atStart => exact ⟨0, by omega, rfl, rfl, by rw [wipe_0]; exact ht, Only.refl _ _⟩
  case round =>
    obtain ⟨k, hk, rfl, rfl, hT, hg⟩ := hrel
    have hcl := cnt_le P T k
    by_cases hlt : k < 16
    · have hlt' : (k : Int) < 16 := by omega
      have hk0 : (0 : Int) ≤ (k : Int) := by omega
      have hr := hT.at_ k hlt
      rw [wipe_at] at hr
      have hy := wipe_yes (P := P) (T := T) (k := k)
      have hno := wipe_no (P := P) (T := T) (k := k)
      have hPk := (hPx (T k)).symm
      generalize T k = e at *
      generalize cntK P T k = c at *
      have hkeep : k < 16 := hlt
      have c0 : (0 : Int) ≤ (c : Int) := by omega
      have c9 : (c : Int) ≤ 16 := by omega
      cases hv : e.valid
      · have hz : P e = false := by rw [hPk]; unfold hosB; simp [hv]
        go_upto_region 6 with (first | (refine wpList_load_mid rfl 47 _ rfl b (k * 9) rfl (entA e) _ hr Tryd.underlying47 rfl (ent_size' _) ?_) | (refine wpList_alloc_go rfl 47 rfl (entA entNone).toArray ent_zero' ?_; intro eb wa na ka ma ba) | (refine wpList_store_go rfl 47 _ _ rfl eb (entA e).toArray rfl rfl ba (ent_size' _) ((ent_len _).trans (ent_len _).symm) (ent_ones' _) ?_; intro wb ob bb))
        have kx : Kept wr wb := ka.new ob fun i hi => by omega
        have hTb := hT.kept kx
        have hgb : Only (fun i => i = b) w wb := hg.then kx
        clear hr ka ba ob kx
        have y0 : _ = some (Value.bool e.valid) := bb.cell 0
        have y1 : _ = some (Value.bool e.v) := bb.cell 1
        have y8 : _ = some (Value.int .i64 e.guest) := bb.cell 8
        have y4 : _ = some (Value.int .i64 e.vmid) := bb.cell 4
        rw [hv] at y0
        go_wp2_with fail
        exact ⟨⟨k + 1, by omega, by go_num, by rw [(hno hz).2], by rw [(hno hz).1]; exact hTb, hgb⟩, by simp [intOf]; omega⟩
      · cases hq : e.v
        · have hz : P e = false := by rw [hPk]; unfold hosB; simp [hq]
          go_upto_region 6 with (first | (refine wpList_load_mid rfl 47 _ rfl b (k * 9) rfl (entA e) _ hr Tryd.underlying47 rfl (ent_size' _) ?_) | (refine wpList_alloc_go rfl 47 rfl (entA entNone).toArray ent_zero' ?_; intro eb wa na ka ma ba) | (refine wpList_store_go rfl 47 _ _ rfl eb (entA e).toArray rfl rfl ba (ent_size' _) ((ent_len _).trans (ent_len _).symm) (ent_ones' _) ?_; intro wb ob bb))
          have kx : Kept wr wb := ka.new ob fun i hi => by omega
          have hTb := hT.kept kx
          have hgb : Only (fun i => i = b) w wb := hg.then kx
          clear hr ka ba ob kx
          have y0 : _ = some (Value.bool e.valid) := bb.cell 0
          have y1 : _ = some (Value.bool e.v) := bb.cell 1
          have y8 : _ = some (Value.int .i64 e.guest) := bb.cell 8
          have y4 : _ = some (Value.int .i64 e.vmid) := bb.cell 4
          rw [hv] at y0
          rw [hq] at y1
          go_wp2_with fail
          exact ⟨⟨k + 1, by omega, by go_num, by rw [(hno hz).2], by rw [(hno hz).1]; exact hTb, hgb⟩, by simp [intOf]; omega⟩
        · cases hp : namB e.guest frame
          · have hz : P e = false := by rw [hPk]; unfold hosB; simp [hp]
            go_upto_region 6 with (first | (refine wpList_load_mid rfl 47 _ rfl b (k * 9) rfl (entA e) _ hr Tryd.underlying47 rfl (ent_size' _) ?_) | (refine wpList_alloc_go rfl 47 rfl (entA entNone).toArray ent_zero' ?_; intro eb wa na ka ma ba) | (refine wpList_store_go rfl 47 _ _ rfl eb (entA e).toArray rfl rfl ba (ent_size' _) ((ent_len _).trans (ent_len _).symm) (ent_ones' _) ?_; intro wb ob bb))
            have kx : Kept wr wb := ka.new ob fun i hi => by omega
            have hTb := hT.kept kx
            have hgb : Only (fun i => i = b) w wb := hg.then kx
            clear hr ka ba ob kx
            have y0 : _ = some (Value.bool e.valid) := bb.cell 0
            have y1 : _ = some (Value.bool e.v) := bb.cell 1
            have y8 : _ = some (Value.int .i64 e.guest) := bb.cell 8
            have y4 : _ = some (Value.int .i64 e.vmid) := bb.cell 4
            rw [hv] at y0
            rw [hq] at y1
            go_wp2_with (go_at_call 23; refine (rnamed_of _ _ _).mono ?_; rintro r wy ⟨rfl, hwy⟩; rw [hwy]; clear hwy wy; rw [hp])
            exact ⟨⟨k + 1, by omega, by go_num, by rw [(hno hz).2], by rw [(hno hz).1]; exact hTb, hgb⟩, by simp [intOf]; omega⟩
          · cases ha : namB e.vmid vmid
            · have hz : P e = false := by rw [hPk]; unfold hosB; simp [ha]
              go_upto_region 6 with (first | (refine wpList_load_mid rfl 47 _ rfl b (k * 9) rfl (entA e) _ hr Tryd.underlying47 rfl (ent_size' _) ?_) | (refine wpList_alloc_go rfl 47 rfl (entA entNone).toArray ent_zero' ?_; intro eb wa na ka ma ba) | (refine wpList_store_go rfl 47 _ _ rfl eb (entA e).toArray rfl rfl ba (ent_size' _) ((ent_len _).trans (ent_len _).symm) (ent_ones' _) ?_; intro wb ob bb))
              have kx : Kept wr wb := ka.new ob fun i hi => by omega
              have hTb := hT.kept kx
              have hgb : Only (fun i => i = b) w wb := hg.then kx
              clear hr ka ba ob kx
              have y0 : _ = some (Value.bool e.valid) := bb.cell 0
              have y1 : _ = some (Value.bool e.v) := bb.cell 1
              have y8 : _ = some (Value.int .i64 e.guest) := bb.cell 8
              have y4 : _ = some (Value.int .i64 e.vmid) := bb.cell 4
              rw [hv] at y0
              rw [hq] at y1
              go_wp2_with (go_at_call 23; refine (rnamed_of _ _ _).mono ?_; rintro r wy ⟨rfl, hwy⟩; rw [hwy]; clear hwy wy; first | rw [hp] | rw [ha])
              exact ⟨⟨k + 1, by omega, by go_num, by rw [(hno hz).2], by rw [(hno hz).1]; exact hTb, hgb⟩, by simp [intOf]; omega⟩
            · have hz : P e = true := by rw [hPk]; unfold hosB; simp [hv, hq, hp, ha]
              go_upto_region 6 with (first | (refine wpList_load_mid rfl 47 _ rfl b (k * 9) rfl (entA e) _ hr Tryd.underlying47 rfl (ent_size' _) ?_) | (refine wpList_alloc_go rfl 47 rfl (entA entNone).toArray ent_zero' ?_; intro eb wa na ka ma ba) | (refine wpList_store_go rfl 47 _ _ rfl eb (entA e).toArray rfl rfl ba (ent_size' _) ((ent_len _).trans (ent_len _).symm) (ent_ones' _) ?_; intro wb ob bb))
              have kx : Kept wr wb := ka.new ob fun i hi => by omega
              have hTb := hT.kept kx
              have hgb : Only (fun i => i = b) w wb := hg.then kx
              clear hr ka ba ob kx
              have y0 : _ = some (Value.bool e.valid) := bb.cell 0
              have y1 : _ = some (Value.bool e.v) := bb.cell 1
              have y8 : _ = some (Value.int .i64 e.guest) := bb.cell 8
              have y4 : _ = some (Value.int .i64 e.vmid) := bb.cell 4
              rw [hv] at y0
              rw [hq] at y1
              have hs := run_cells9 hTb hlt entNone
              go_wp2_with (first | (go_at_call 23; refine (rnamed_of _ _ _).mono ?_; rintro r wy ⟨rfl, hwy⟩; rw [hwy]; clear hwy wy; first | rw [hp] | rw [ha]) | (refine wpList_built rfl 47 #[] rfl (entA entNone).toArray (by kernel_rfl) ?_))
              exact ⟨⟨k + 1, by omega, by go_num, by rw [(hy hz).2, Int.natCast_add]; rfl, by rw [(hy hz).1]; exact hTb.set hlt entNone, hgb.trans (only_cells b (entA entNone) (k * 9) _)⟩, by simp [intOf]; omega⟩
    · obtain rfl : k = 16 := by omega
      go_wp2_with fail
      go_ret
      exact ⟨rfl, hT, hg⟩
end
end Go.Proofs.YtpfblbleendpiaaDoor
