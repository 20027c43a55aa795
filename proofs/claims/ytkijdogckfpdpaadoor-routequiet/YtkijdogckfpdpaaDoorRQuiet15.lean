/-
  What statement RouteQuiet asks: with nothing enabled nothing comes, the machine without MIE isn't interrupted. Walked over the contracts.
-/
import Derived.Test.YtkijdogckfpdpaaDoorRouFace
import Derived.Test.YtkijdogckfpdpaaDoorRouMath2
namespace Go.Proofs.YtkijdogckfpdpaaDoor
open Go.RowKit
theorem st_past16 {w w' : World} {b c : Nat} {S : StM} (h : StAt w b S) (g : Only (fun i => i = c) w w') (hn : b ≠ c) : StAt w' b S := World.rowIs.of_block h (g.same b (World.rowIs.lt h) hn)
set_option maxRecDepth 100000 in
set_option maxHeartbeats 16000000 in
theorem rquiet15 (S : StM) (t l : Bool) (hS : S.Ok) {W : World} (hT : Tab15 W) :
    Calls Tryd.prog 5 #[.agg (rowOf 65 (stF S)), .bool t, .bool l] W fun e w' => e = .returned (.bool true) ∧ Kept W w' := by
  have h0 := st_new W S
  have k0 := (Only.refl (fun _ => False) W).alloc (.cells (rowOf 65 (stF S)) 26)
  have hC := cleanM_ok hS
  have hLo := lvO_clean S
  go_enter Tryd.func5, Tryd.ntmps5
  go_upto_region 1 with fail
  generalize W.alloc (.cells (rowOf 65 (stF S)) 26) = w0 at *
  generalize W.heap.size = bb at h0
  go_wp2_with fail
  refine (known15_any (hT.kept k0) (Only.refl _ w0)).mono ?_
  rintro e w1 ⟨rfl, k1⟩
  have h1 := st_kept16 h0 k1
  have k2 : Kept W w1 := k0.then k1
  clear h0 k0 k1
  go_upto_region 4 with (first | (refine wpList_load_is (by rfl) 26 _ rfl rfl h1 _ Tryd.underlying26 rfl st_size ?_) | (go_at_call 8; refine (rclean_any S _).mono ?_; rintro e wq ⟨rfl, k3⟩) | refine wpList_alloc_is rfl 26 rfl (rowOf 65 zF) st_zero ?_ | (refine wpList_store_is rfl 26 _ _ rfl rfl rfl (row_alloc _ 65 zF _) st_size (fun i _ => stF_one _ i) ?_; rw [World.setRow_alloc_new]))
  generalize cleanM S = C at *
  have s2 := sr_new (k2.then k3) C
  try simp only [Act.put]
  generalize wq.alloc (.cells (rowOf 65 (stF C)) 26) = w2 at s2 ⊢
  generalize wq.heap.size = sb at s2 ⊢
  clear k2 k3 h1
  have u3 := sr_new s2.k C
  have t3 := st_kept16 s2.s ((Only.refl (fun _ => False) w2).alloc (.cells (rowOf 65 (stF C)) 26))
  have d3 : w2.heap.size ≠ sb := by have := World.rowIs.lt s2.s; omega
  go_upto_region 5 with (first | (refine wpList_load_is (by rfl) 26 _ rfl rfl s2.s _ Tryd.underlying26 rfl st_size ?_) | refine wpList_alloc_is rfl 26 rfl (rowOf 65 zF) st_zero ?_ | (refine wpList_store_is rfl 26 _ _ rfl rfl rfl (row_alloc _ 65 zF _) st_size (fun i _ => stF_one _ i) ?_; rw [World.setRow_alloc_new]))
  have b3 := s2.hb
  try simp only [Act.put]
  generalize w2.alloc (.cells (rowOf 65 (stF C)) 26) = v3 at u3 t3 ⊢
  generalize w2.heap.size = r3 at u3 d3 ⊢
  clear s2
  have f3 := u3.s.frozen 38
  have c3 := u3.s.cell (i := 38) (by omega)
  have u4 : SR W (v3.setCell ⟨r3, 38, none⟩ (.int .u64 0)) r3 (C.setC 3 0) := u3.set (i := 3) (by omega) 0
  have t4 := st_past16 t3 (Only.setCell (Only.refl (fun i => i = r3) v3) (x := ⟨r3, 38, none⟩) rfl (.int .u64 0)) (fun x => d3 x.symm)
  go_upto_region 6 with fail
  clear u3 t3 f3 c3
  generalize v3.setCell ⟨r3, 38, none⟩ (.int .u64 0) = v4 at u4 t4 ⊢
  go_wp2_with (first | (refine wpList_load_is (by rfl) 26 _ rfl rfl u4.s _ Tryd.underlying26 rfl st_size ?_))
  refine (rtint_any (hT.kept u4.k) (hC.setC 3 (by unfold U; omega)) ⟨hLo.l⟩ t l).mono ?_
  rintro r w5 ⟨rfl, k5⟩
  rw [quiet_mie hC]
  unfold intV
  have s5 : SR W w5 sb C := ⟨st_kept16 t4 k5, u4.k.then k5, b3⟩
  clear u4 t4 k5 d3
  have u6 := sr_new s5.k C
  have t6 := st_kept16 s5.s ((Only.refl (fun _ => False) w5).alloc (.cells (rowOf 65 (stF C)) 26))
  have d6 : w5.heap.size ≠ sb := by have := World.rowIs.lt s5.s; omega
  go_upto_region 8 with (first | (refine wpList_load_is (by rfl) 26 _ rfl rfl s5.s _ Tryd.underlying26 rfl st_size ?_) | refine wpList_alloc_is rfl 26 rfl (rowOf 65 zF) st_zero ?_ | (refine wpList_store_is rfl 26 _ _ rfl rfl rfl (row_alloc _ 65 zF _) st_size (fun i _ => stF_one _ i) ?_; rw [World.setRow_alloc_new]))
  have b6 := s5.hb
  try simp only [Act.put]
  generalize w5.alloc (.cells (rowOf 65 (stF C)) 26) = v6 at u6 t6 ⊢
  generalize w5.heap.size = r6 at u6 d6 ⊢
  clear s5
  have f6 := u6.s.frozen 33
  have c6 := st_lvl u6.s
  have u7 : SR W (v6.setCell ⟨r6, 33, none⟩ (.int .i64 3)) r6 (setLvl C 3) := u6.put (.int .i64 3) (stF_lvl C 3)
  have f7 := u7.s.frozen 34
  have c7 := st_v u7.s
  have u8 : SR W ((v6.setCell ⟨r6, 33, none⟩ (.int .i64 3)).setCell ⟨r6, 34, none⟩ (.bool false)) r6 (setV (setLvl C 3) false) := u7.put (.bool false) (stF_v (setLvl C 3) false)
  have t8 := st_past16 t6 ((Only.setCell (Only.refl (fun i => i = r6) v6) (x := ⟨r6, 33, none⟩) rfl (.int .i64 3)).setCell (x := ⟨r6, 34, none⟩) rfl (.bool false)) (fun x => d6 x.symm)
  go_upto_region 9 with fail
  clear u6 u7 t6 f6 f7 c6 c7
  generalize (v6.setCell ⟨r6, 33, none⟩ (.int .i64 3)).setCell ⟨r6, 34, none⟩ (.bool false) = v8 at u8 t8 ⊢
  have f8 := u8.s.frozen 35
  have c8 : _ = some (Value.int .u64 (C.C 0)) := u8.s.c (i := 0) (by omega)
  have u9 : SR W (v8.setCell ⟨r6, 35, none⟩ (.int .u64 (bits .andNot .u64 (C.C 0) 8))) r6 ((setV (setLvl C 3) false).setC 0 (bits .andNot .u64 (C.C 0) 8)) := u8.set (i := 0) (by omega) _
  have t9 := st_past16 t8 (Only.setCell (Only.refl (fun i => i = r6) v8) (x := ⟨r6, 35, none⟩) rfl (.int .u64 (bits .andNot .u64 (C.C 0) 8))) (fun x => d6 x.symm)
  go_upto_region 10 with fail
  clear u8 t8 f8 c8
  generalize v8.setCell ⟨r6, 35, none⟩ (.int .u64 (bits .andNot .u64 (C.C 0) 8)) = v9 at u9 t9 ⊢
  have hCm : ((setV (setLvl C 3) false).setC 0 (bits .andNot .u64 (C.C 0) 8)).Ok := StM.Ok.setC (S := setV (setLvl C 3) false) ⟨hC.X, hC.pc, (show -9223372036854775808 ≤ (3 : Int) ∧ (3 : Int) ≤ 9223372036854775807 by omega), hC.C, hC.done⟩ 0 (U_andNot _ _)
  go_wp2_with (first | (refine wpList_load_is (by rfl) 26 _ rfl rfl u9.s _ Tryd.underlying26 rfl st_size ?_))
  refine (rtint_any (hT.kept u9.k) hCm ⟨.inr (.inr ⟨rfl, rfl⟩)⟩ t l).mono ?_
  rintro r w10 ⟨rfl, k10⟩
  rw [quiet_m hC]
  unfold intV
  have s10 : SR W w10 sb C := ⟨st_kept16 t9 k10, u9.k.then k10, b6⟩
  clear u9 t9 k10 d6 hCm
  have u11 := sr_new s10.k C
  have t11 := st_kept16 s10.s ((Only.refl (fun _ => False) w10).alloc (.cells (rowOf 65 (stF C)) 26))
  have d11 : w10.heap.size ≠ sb := by have := World.rowIs.lt s10.s; omega
  go_upto_region 12 with (first | (refine wpList_load_is (by rfl) 26 _ rfl rfl s10.s _ Tryd.underlying26 rfl st_size ?_) | refine wpList_alloc_is rfl 26 rfl (rowOf 65 zF) st_zero ?_ | (refine wpList_store_is rfl 26 _ _ rfl rfl rfl (row_alloc _ 65 zF _) st_size (fun i _ => stF_one _ i) ?_; rw [World.setRow_alloc_new]))
  have b11 := s10.hb
  try simp only [Act.put]
  generalize w10.alloc (.cells (rowOf 65 (stF C)) 26) = v11 at u11 t11 ⊢
  generalize w10.heap.size = r11 at u11 d11 ⊢
  clear s10
  have f11 := u11.s.frozen 33
  have c11 := st_lvl u11.s
  have u12 : SR W (v11.setCell ⟨r11, 33, none⟩ (.int .i64 1)) r11 (setLvl C 1) := u11.put (.int .i64 1) (stF_lvl C 1)
  have f12 := u12.s.frozen 34
  have c12 := st_v u12.s
  have u13 : SR W ((v11.setCell ⟨r11, 33, none⟩ (.int .i64 1)).setCell ⟨r11, 34, none⟩ (.bool false)) r11 (setV (setLvl C 1) false) := u12.put (.bool false) (stF_v (setLvl C 1) false)
  go_upto_region 13 with fail
  clear u11 u12 t11 f11 f12 c11 c12
  generalize (v11.setCell ⟨r11, 33, none⟩ (.int .i64 1)).setCell ⟨r11, 34, none⟩ (.bool false) = v13 at u13 ⊢
  have f13 := u13.s.frozen 35
  have c13 : _ = some (Value.int .u64 (C.C 0)) := u13.s.c (i := 0) (by omega)
  have u14 : SR W (v13.setCell ⟨r11, 35, none⟩ (.int .u64 (bits .andNot .u64 (C.C 0) 2))) r11 ((setV (setLvl C 1) false).setC 0 (bits .andNot .u64 (C.C 0) 2)) := u13.set (i := 0) (by omega) _
  go_upto_region 14 with fail
  clear u13 f13 c13
  generalize v13.setCell ⟨r11, 35, none⟩ (.int .u64 (bits .andNot .u64 (C.C 0) 2)) = v14 at u14 ⊢
  have f14 := u14.s.frozen 37
  have c14 := u14.s.c (i := 2) (by omega)
  have u15 : SR W (v14.setCell ⟨r11, 37, none⟩ (.int .u64 544)) r11 (((setV (setLvl C 1) false).setC 0 (bits .andNot .u64 (C.C 0) 2)).setC 2 544) := u14.set (i := 2) (by omega) _
  go_upto_region 15 with fail
  clear u14 f14 c14
  generalize v14.setCell ⟨r11, 37, none⟩ (.int .u64 544) = v15 at u15 ⊢
  have hCh : (((setV (setLvl C 1) false).setC 0 (bits .andNot .u64 (C.C 0) 2)).setC 2 544).Ok := StM.Ok.setC (StM.Ok.setC (S := setV (setLvl C 1) false) ⟨hC.X, hC.pc, (show -9223372036854775808 ≤ (1 : Int) ∧ (1 : Int) ≤ 9223372036854775807 by omega), hC.C, hC.done⟩ 0 (U_andNot _ _)) 2 (by unfold U; omega)
  go_wp2_with (first | (refine wpList_load_is (by rfl) 26 _ rfl rfl u15.s _ Tryd.underlying26 rfl st_size ?_))
  refine (rtint_any (hT.kept u15.k) hCh ⟨.inr (.inl rfl)⟩ t l).mono ?_
  rintro r w16 ⟨rfl, k16⟩
  rw [quiet_h hC]
  unfold intV
  have kF := u15.k.then k16
  clear u15 k16 hCh
  go_wp2_with fail
  go_ret
  exact ⟨rfl, kF⟩
end Go.Proofs.YtkijdogckfpdpaaDoor
