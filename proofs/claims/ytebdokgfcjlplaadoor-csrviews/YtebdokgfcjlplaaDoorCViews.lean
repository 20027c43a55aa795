/-
  What statement CsrViews asks: walked for every argument.
-/
import Derived.Test.YtebdokgfcjlplaaDoorCGuests
namespace Go.Proofs.YtebdokgfcjlplaaDoor
open Go.RowKit
theorem put_and {o v m : Int} (ho : U o) (hv : U v) (hm : U m) : bits .and .u64 (putI o v m) m = bits .and .u64 v m := by
  unfold putI
  refine (U_and _ _).ext (U_and _ _) fun i hi => ?_
  rw [tb_and (U_or _ _) hm, tb_or (U_andNot _ _) (U_and _ _), tb_andNot ho hm i hi, tb_and hv hm]
  cases tb o i <;> cases tb v i <;> cases tb m i <;> rfl
theorem put_andNot {o v m : Int} (ho : U o) (hv : U v) (hm : U m) : bits .andNot .u64 (putI o v m) m = bits .andNot .u64 o m := by
  unfold putI
  refine (U_andNot _ _).ext (U_andNot _ _) fun i hi => ?_
  rw [tb_andNot (U_or _ _) hm i hi, tb_or (U_andNot _ _) (U_and _ _), tb_andNot ho hm i hi, tb_and hv hm]
  cases tb o i <;> cases tb v i <;> cases tb m i <;> rfl
theorem tb_544 : ∀ i : Fin 64, tb 544 i.val = (decide (i.val = 5) || decide (i.val = 9)) := by decide +kernel
theorem tb_1088 : ∀ i : Fin 64, tb 1088 i.val = (decide (i.val = 6) || decide (i.val = 10)) := by decide +kernel
theorem low_view {v : Int} (hv : U v) : bits .and .u64 (v * 2 % 18446744073709551616) 1088 / 2 = bits .and .u64 v 544 := by
  have hw : v * 2 % 18446744073709551616 = IntKind.u64.wrap (v * 2 ^ 1) := by rw [IntKind.wrap_u64]; rfl
  have hm : U 1088 := by unfold U; omega
  have hm' : U 544 := by unfold U; omega
  have e := fun i => tb_shr (U_and (v * 2 % 18446744073709551616) 1088) 1 i
  rw [show (2 : Int) ^ 1 = 2 from rfl] at e
  have hU := U_shr (U_and (v * 2 % 18446744073709551616) 1088) 1
  rw [show (2 : Int) ^ 1 = 2 from rfl] at hU
  refine hU.ext (U_and _ _) fun i hi => ?_
  rw [e i, tb_and (by rw [hw]; exact U_wrap _) hm, tb_and hv hm', tb_544 ⟨i, hi⟩, hw, tb_shl hv, Nat.add_sub_cancel]
  by_cases h : i + 1 < 64
  · rw [tb_1088 ⟨i + 1, h⟩, decide_eq_true h, decide_eq_true (show 1 ≤ i + 1 by omega), Bool.true_and, Bool.true_and]
    congr 1
    by_cases h5 : i = 5
    · subst h5; rfl
    · by_cases h9 : i = 9
      · subst h9; rfl
      · simp [h5, h9]
  · obtain rfl : i = 63 := by omega
    simp
def vA (S : StM) (v : Int) : StM := S.setC 0 (putI (S.C 0) v 786722)
def vC (S : StM) (v : Int) : StM := S.setC 3 (putI (S.C 3) (v * 2 % 18446744073709551616) 1088)
theorem v_a (S : StM) (v : Int) : wrS S 256 v = vA S v := rfl
theorem v_c (S : StM) (v : Int) : wrS S 516 v = vC S v := rfl
theorem v_f (S : StM) (v : Int) : wrS S 3074 v = S := rfl
theorem U_v2 (v : Int) : U (v * 2 % 18446744073709551616) := ⟨by omega, by omega⟩
theorem v_b {S : StM} (hS : S.Ok) {v : Int} (hv : U v) : rdC (vA S v) 256 = bits .and .u64 v 786722 := by
  have e : rdC (vA S v) 256 = bits .and .u64 ((vA S v).C 0) 786722 := rfl
  rw [e]; exact put_and (hS.C 0 (by omega)) hv (by unfold U; omega)
theorem v_d {S : StM} (hS : S.Ok) {v : Int} (hv : U v) : rdC (vC S v) 516 = bits .and .u64 v 544 := by
  have e : rdC (vC S v) 516 = bits .and .u64 (putI (S.C 3) (v * 2 % 18446744073709551616) 1088) 1088 / 2 := rfl
  rw [e, put_and (hS.C 3 (by omega)) (U_v2 v) (by unfold U; omega)]; exact low_view hv
theorem v_e {S : StM} (hS : S.Ok) {v : Int} : rdC (vC S v) 260 = bits .and .u64 (S.C 3) 544 := by
  have e : rdC (vC S v) 260 = bits .and .u64 (putI (S.C 3) (v * 2 % 18446744073709551616) 1088) 544 := rfl
  rw [e]; exact put_apart _ _ _ _ (hS.C 3 (by omega)) (U_v2 v) (by unfold U; omega) (by unfold U; omega) (by decide +kernel)
theorem v_x {S : StM} (hS : S.Ok) {v : Int} (hv : U v) : bits .andNot .u64 ((vA S v).C 0) 786722 = bits .andNot .u64 (S.C 0) 786722 := put_andNot (hS.C 0 (by omega)) hv (by unfold U; omega)
theorem v_y {S : StM} (hS : S.Ok) {v : Int} : bits .andNot .u64 ((vC S v).C 3) 1088 = bits .andNot .u64 (S.C 3) 1088 := put_andNot (hS.C 3 (by omega)) (U_v2 v) (by unfold U; omega)
theorem ok256 : okC 256 = true := by decide +kernel
theorem ok260 : okC 260 = true := by decide +kernel
theorem ok516 : okC 516 = true := by decide +kernel
theorem ok3074 : okC 3074 = true := by decide +kernel
set_option maxRecDepth 10000 in
set_option maxHeartbeats 2000000 in
theorem cviews_any (S : StM) (hS : S.Ok) (v : Int) (hv : U v) {W : World} (hT : Tab8 W) :
    Calls Tryd.prog 5 #[.agg (rowOf 65 (stF S)), .int .u64 v] W fun e w' => e = .returned (.bool true) ∧ Kept W w' := by
  have hA : (vA S v).Ok := hS.setC 0 (U_put _ _ _)
  have hC : (vC S v).Ok := hS.setC 3 (U_put _ _ _)
  have heq := eq_state hS
  have q1 : (bits .and .u64 v 786722 == bits .and .u64 v 786722) = true := beq_self_eq_true _
  go_enter Tryd.func5, Tryd.ntmps5
  go_wp2_with fail
  refine (known8_any hT ((Only.refl _ W).alloc _)).mono ?_
  rintro e w1 ⟨rfl, g1⟩
  have k1 := kept_boxed g1
  have h1 := (st_new W S).kept g1
  go_wp2_with refine wpList_load_is (by rfl) 26 _ rfl rfl h1 _ Tryd.underlying26 rfl st_size ?_
  refine (cwrite_any (hT.kept k1) hS _ _ hv).mono ?_
  rintro e w2 ⟨rfl, g2⟩
  rw [v_a, ok256]
  have k2 := (k1.then g2).alloc (.cells (rowOf 65 (stF (vA S v))) 26)
  have a2 := st_new w2 (vA S v)
  have h2 : StAt (w2.alloc (.cells (rowOf 65 (stF (vA S v))) 26)) W.heap.size S := World.rowIs.alloc (h1.kept g2) _
  go_wp2_with first | refine wpList_alloc_is rfl 26 rfl (rowOf 65 zF) st_zero ?_ | (refine wpList_store_is rfl 26 _ _ rfl rfl rfl (row_alloc _ 65 zF _) st_size (fun i _ => stF_one _ i) ?_; rw [World.setRow_alloc_new]) | refine wpList_load_is (by rfl) 26 _ rfl rfl a2 _ Tryd.underlying26 rfl st_size ?_
  refine (cread_any (hT.kept k2) hA _).mono ?_
  rintro e w3 ⟨rfl, g3⟩
  rw [v_b hS hv, ok256]
  have k3 := k2.then g3
  have a3 := a2.kept g3
  have h3 := h2.kept g3
  go_wp2_with refine wpList_load_is (by rfl) 26 _ rfl rfl h3 _ Tryd.underlying26 rfl st_size ?_
  refine (cwrite_any (hT.kept k3) hS _ _ hv).mono ?_
  rintro e w4 ⟨rfl, g4⟩
  rw [v_c, ok516]
  have k4 := (k3.then g4).alloc (.cells (rowOf 65 (stF (vC S v))) 26)
  have c4 := st_new w4 (vC S v)
  have h4 : StAt (w4.alloc (.cells (rowOf 65 (stF (vC S v))) 26)) W.heap.size S := World.rowIs.alloc (h3.kept g4) _
  have a4 : StAt (w4.alloc (.cells (rowOf 65 (stF (vC S v))) 26)) w2.heap.size (vA S v) := World.rowIs.alloc (a3.kept g4) _
  go_wp2_with first | refine wpList_alloc_is rfl 26 rfl (rowOf 65 zF) st_zero ?_ | (refine wpList_store_is rfl 26 _ _ rfl rfl rfl (row_alloc _ 65 zF _) st_size (fun i _ => stF_one _ i) ?_; rw [World.setRow_alloc_new]) | refine wpList_load_is (by rfl) 26 _ rfl rfl c4 _ Tryd.underlying26 rfl st_size ?_
  refine (cread_any (hT.kept k4) hC _).mono ?_
  rintro e w5 ⟨rfl, g5⟩
  rw [v_d hS hv, ok516]
  have k5 := k4.then g5
  have c5 := c4.kept g5
  have h5 := h4.kept g5
  have a5 := a4.kept g5
  go_wp2_with refine wpList_load_is (by rfl) 26 _ rfl rfl c5 _ Tryd.underlying26 rfl st_size ?_
  refine (cread_any (hT.kept k5) hC _).mono ?_
  rintro e w6 ⟨rfl, g6⟩
  rw [v_e hS, ok260]
  have k6 := k5.then g6
  have c6 := c5.kept g6
  have h6 := h5.kept g6
  have a6 := a5.kept g6
  go_wp2_with refine wpList_load_is (by rfl) 26 _ rfl rfl h6 _ Tryd.underlying26 rfl st_size ?_
  refine (cwrite_any (hT.kept k6) hS _ _ hv).mono ?_
  rintro e w7 ⟨rfl, g7⟩
  rw [v_f, ok3074]
  have k7 := (k6.then g7).alloc (.cells (rowOf 65 (stF S)) 26)
  have f7 := st_new w7 S
  have h7 : StAt (w7.alloc (.cells (rowOf 65 (stF S)) 26)) W.heap.size S := World.rowIs.alloc (h6.kept g7) _
  have a7 : StAt (w7.alloc (.cells (rowOf 65 (stF S)) 26)) w2.heap.size (vA S v) := World.rowIs.alloc (a6.kept g7) _
  have c7 : StAt (w7.alloc (.cells (rowOf 65 (stF S)) 26)) w4.heap.size (vC S v) := World.rowIs.alloc (c6.kept g7) _
  have m1 := a7.c (i := 0) (by omega)
  have m2 := h7.c (i := 0) (by omega)
  have m3 := c7.c (i := 3) (by omega)
  have m4 := h7.c (i := 3) (by omega)
  have x1 : (bits .andNot .u64 ((vA S v).C 0) 786722 == bits .andNot .u64 (S.C 0) 786722) = true := by rw [v_x hS hv]; exact beq_self_eq_true _
  have x2 : (bits .andNot .u64 ((vC S v).C 3) 1088 == bits .andNot .u64 (S.C 3) 1088) = true := by rw [v_y hS]; exact beq_self_eq_true _
  have x3 : (bits .and .u64 v 544 == bits .and .u64 v 544) = true := beq_self_eq_true _
  have x4 : (bits .and .u64 (S.C 3) 544 == bits .and .u64 (S.C 3) 544) = true := beq_self_eq_true _
  go_wp2_with first | refine wpList_alloc_is rfl 26 rfl (rowOf 65 zF) st_zero ?_ | (refine wpList_store_is rfl 26 _ _ rfl rfl rfl (row_alloc _ 65 zF _) st_size (fun i _ => stF_one _ i) ?_; rw [World.setRow_alloc_new]) | refine wpList_load_is (by rfl) 26 _ rfl rfl f7 _ Tryd.underlying26 rfl st_size ?_ | refine wpList_load_is (by rfl) 26 _ rfl rfl h7 _ Tryd.underlying26 rfl st_size ?_
  go_ret
  exact ⟨rfl, k7⟩
end Go.Proofs.YtebdokgfcjlplaaDoor
