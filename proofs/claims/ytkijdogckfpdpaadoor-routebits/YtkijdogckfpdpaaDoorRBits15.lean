/-
  What statement RouteBits asks: exceptions go down by the bits that say so, one by one, no other one. Walked over the contracts.
-/
import Derived.Test.YtkijdogckfpdpaaDoorRouFace
import Derived.Test.YtkijdogckfpdpaaDoorRouMath2
namespace Go.Proofs.YtkijdogckfpdpaaDoor
open Go.RowKit
theorem rem24 {x : Int} (h0 : 0 ≤ x) : ∃ n : Nat, n < 24 ∧ x.tmod 24 = (n : Int) := by
  rw [Int.tmod_eq_emod_of_nonneg h0]
  exact ⟨(x % 24).toNat, by omega, by omega⟩
set_option maxRecDepth 100000 in
set_option maxHeartbeats 16000000 in
theorem rbits15 (S : StM) (cause other : Int) (hS : S.Ok) (c0 : 0 ≤ cause) (_ : cause ≤ 255) (d0 : 0 ≤ other) (_ : other ≤ 255) {W : World} (hT : Tab15 W) :
    Calls Tryd.prog 6 #[.agg (rowOf 65 (stF S)), .int .u8 cause, .int .u8 other] W fun e w' => e = .returned (.bool true) ∧ Kept W w' := by
  obtain ⟨n, hn, en⟩ := rem24 c0
  obtain ⟨d, hd, ed⟩ := rem24 d0
  have n0 : (0 : Int) ≤ (n : Int) := by omega
  have n1 : (n : Int) < 24 := by omega
  have e0 : (0 : Int) ≤ (d : Int) := by omega
  have e1 : (d : Int) < 24 := by omega
  have un : U (n : Int) := by unfold U; omega
  have ud : U (d : Int) := by unfold U; omega
  have h0 := st_new W S
  have k0 := (Only.refl (fun _ => False) W).alloc (.cells (rowOf 65 (stF S)) 26)
  have hC := cleanM_ok hS
  go_enter Tryd.func6, Tryd.ntmps6
  go_upto_region 1 with fail
  generalize W.alloc (.cells (rowOf 65 (stF S)) 26) = w0 at *
  generalize W.heap.size = bb at h0
  go_wp2_with fail
  refine (known15_any (hT.kept k0) (Only.refl _ w0)).mono ?_
  rintro e w1 ⟨rfl, k1⟩
  have h1 := st_kept16 h0 k1
  have k2 : Kept W w1 := k0.then k1
  clear h0 k0 k1
  go_upto_region 4 with (first | (refine wpList_load_is (by rfl) 26 _ rfl rfl h1 _ Tryd.underlying26 rfl st_size ?_) | (go_at_call 8; refine (rclean_any S _).mono ?_; rintro e w2 ⟨rfl, k3⟩) | refine wpList_alloc_is rfl 26 rfl (rowOf 65 zF) st_zero ?_ | (refine wpList_store_is rfl 26 _ _ rfl rfl rfl (row_alloc _ 65 zF _) st_size (fun i _ => stF_one _ i) ?_; rw [World.setRow_alloc_new]))
  generalize cleanM S = C at *
  have s2 := sr_new (k2.then k3) C
  try simp only [Act.put]
  generalize w2.alloc (.cells (rowOf 65 (stF C)) 26) = wx at s2 ⊢
  generalize w2.heap.size = sb at s2 ⊢
  clear k2 k3 h1
  have f1 := s2.s.frozen 33
  have g1 := st_lvl s2.s
  have s3 : SR W (wx.setCell ⟨sb, 33, none⟩ (.int .i64 0)) sb (setLvl C 0) := s2.put (.int .i64 0) (stF_lvl C 0)
  have f2 := s3.s.frozen 34
  have g2 := st_v s3.s
  have s4 : SR W ((wx.setCell ⟨sb, 33, none⟩ (.int .i64 0)).setCell ⟨sb, 34, none⟩ (.bool true)) sb (setV (setLvl C 0) true) := s3.put (.bool true) (stF_v (setLvl C 0) true)
  have f3 := s4.s.frozen 36
  have g3 := s4.s.cell (i := 36) (by omega)
  have s5 := s4.set (i := 1) (by omega) 0
  have f4 := s5.s.frozen 52
  have g4 := s5.s.cell (i := 52) (by omega)
  have s6 : SR W _ sb (b1S C) := s5.set (i := 17) (by omega) 0
  go_upto_region 7 with fail
  clear s2 s3 s4 s5 f1 g1 f2 g2 f3 g3 f4 g4
  have k1 : (b1S C).Ok := StM.Ok.setC (StM.Ok.setC (S := setV (setLvl C 0) true) ⟨hC.X, hC.pc, (show -9223372036854775808 ≤ (0 : Int) ∧ (0 : Int) ≤ 9223372036854775807 by omega), hC.C, hC.done⟩ 1 (by unfold U; omega)) 17 (by unfold U; omega)
  generalize ((((wx.setCell ⟨sb, 33, none⟩ (.int .i64 0)).setCell ⟨sb, 34, none⟩ (.bool true)).setCell ⟨sb, 35 + 1, none⟩ (.int .u64 0)).setCell ⟨sb, 35 + 17, none⟩ (.int .u64 0)) = w7 at s6 ⊢
  go_wp2_with (first | (refine wpList_load_is (by rfl) 26 _ rfl rfl s6.s _ Tryd.underlying26 rfl st_size ?_))
  refine (rtexc_any (hT.kept s6.k) k1 un).mono ?_
  rintro r w8 ⟨rfl, k8⟩
  rw [(bits_1 n).1, (bits_1 n).2]
  have s8 := s6.kept k8
  clear s6 k8
  have f8 := s8.s.frozen 36
  have g8 := s8.s.cell (i := 36) (by omega)
  go_upto_region 9 with fail
  have hp : OneB (IntKind.u64.wrap (2 ^ n)) n := by have := one_shl n; rwa [Int.one_mul] at this
  have s9 : SR W (w8.setCell ⟨sb, 36, none⟩ (.int .u64 (IntKind.u64.wrap (2 ^ n)))) sb (b2S C (IntKind.u64.wrap (2 ^ n))) := s8.set (i := 1) (by omega) _
  have k2 : (b2S C (IntKind.u64.wrap (2 ^ n))).Ok := k1.setC 1 (U_wrap _)
  clear s8 f8 g8 k1
  generalize w8.setCell ⟨sb, 36, none⟩ (.int .u64 (IntKind.u64.wrap (2 ^ n))) = w9 at s9 ⊢
  go_wp2_with (first | (refine wpList_load_is (by rfl) 26 _ rfl rfl s9.s _ Tryd.underlying26 rfl st_size ?_))
  refine (rtexc_any (hT.kept s9.k) k2 un).mono ?_
  rintro r w10 ⟨rfl, k10⟩
  rw [(bits_2 hp hn).1, (bits_2 hp hn).2]
  have s10 := s9.kept k10
  clear s9 k10
  have he := bits_e (C := C) hp hd
  go_wp2_with (first | (refine wpList_load_is (by rfl) 26 _ rfl rfl s10.s _ Tryd.underlying26 rfl st_size ?_))
  refine (rtexc_any (hT.kept s10.k) k2 ud).mono ?_
  rintro r w11 ⟨rfl, k11⟩
  have s11 := s10.kept k11
  clear s10 k11
  generalize excL (b2S C (IntKind.u64.wrap (2 ^ n))) (d : Int) = e at he ⊢
  generalize excV (b2S C (IntKind.u64.wrap (2 ^ n))) (d : Int) = v
  have f11 := s11.s.frozen 52
  have g11 := s11.s.cell (i := 52) (by omega)
  go_upto_region 12 with fail
  have s12 : SR W (w11.setCell ⟨sb, 52, none⟩ (.int .u64 (IntKind.u64.wrap (2 ^ n)))) sb (b3S C (IntKind.u64.wrap (2 ^ n))) := s11.set (i := 17) (by omega) _
  have k3 : (b3S C (IntKind.u64.wrap (2 ^ n))).Ok := k2.setC 17 (U_wrap _)
  clear s11 f11 g11 k2
  generalize w11.setCell ⟨sb, 52, none⟩ (.int .u64 (IntKind.u64.wrap (2 ^ n))) = w12 at s12 ⊢
  go_wp2_with (first | (refine wpList_load_is (by rfl) 26 _ rfl rfl s12.s _ Tryd.underlying26 rfl st_size ?_))
  refine (rtexc_any (hT.kept s12.k) k3 un).mono ?_
  rintro r w13 ⟨rfl, k13⟩
  rw [(bits_3 hp hn).1, (bits_3 hp hn).2]
  have s13 := s12.kept k13
  clear s12 k13
  have f13 := s13.s.frozen 34
  have g13 := st_v s13.s
  go_upto_region 14 with fail
  have s14 : SR W (w13.setCell ⟨sb, 34, none⟩ (.bool false)) sb (b4S C (IntKind.u64.wrap (2 ^ n))) := s13.put (.bool false) (stF_v _ false)
  have k4 : (b4S C (IntKind.u64.wrap (2 ^ n))).Ok := ⟨k3.X, k3.pc, k3.lvl, k3.C, k3.done⟩
  clear s13 f13 g13 k3
  generalize w13.setCell ⟨sb, 34, none⟩ (.bool false) = w14 at s14 ⊢
  go_wp2_with (first | (refine wpList_load_is (by rfl) 26 _ rfl rfl s14.s _ Tryd.underlying26 rfl st_size ?_))
  refine (rtexc_any (hT.kept s14.k) k4 un).mono ?_
  rintro r w15 ⟨rfl, k15⟩
  rw [(bits_4 hp hn).1, (bits_4 hp hn).2]
  have s15 := s14.kept k15
  clear s14 k15
  clear k4 hp hT
  cases hx : ((n : Int) == (d : Int))
  all_goals
    rw [hx] at he
    go_wp2_with fail
    go_ret
    exact ⟨rfl, s15.k⟩
end Go.Proofs.YtkijdogckfpdpaaDoor
