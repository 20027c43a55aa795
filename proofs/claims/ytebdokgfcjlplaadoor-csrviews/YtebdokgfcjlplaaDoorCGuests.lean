/-
  What statement CsrGuests asks: walked for every argument.
-/
import Derived.Test.YtebdokgfcjlplaaDoorCKnown
namespace Go.Proofs.YtebdokgfcjlplaaDoor
open Go.RowKit
/-- Bits that a mask has not stay. -/
theorem put_apart (o v m k : Int) (ho : U o) (hv : U v) (hm : U m) (hk : U k) (hd : bits .and .u64 m k = 0) : bits .and .u64 (putI o v m) k = bits .and .u64 o k := by
  unfold putI
  refine (U_and _ _).ext (U_and _ _) fun i hi => ?_
  have hz : (tb m i && tb k i) = false := by rw [← tb_and hm hk, hd]; simp [tb]
  rw [tb_and (U_or _ _) hk, tb_or (U_andNot _ _) (U_and _ _), tb_andNot ho hm i hi, tb_and hv hm, tb_and ho hk]
  cases ho' : tb o i <;> cases hv' : tb v i <;> cases hm' : tb m i <;> cases hk' : tb k i <;> simp_all
theorem g_ok256 : okC 256 = true := by decide +kernel
theorem g_okr256 : okC 512 = true := by decide +kernel
theorem g_same256 (S : StM) (v : Int) : rdC (wrS S 512 v) 256 = rdC S 256 := by
  rfl
theorem g_ok260 : okC 260 = true := by decide +kernel
theorem g_okr260 : okC 516 = true := by decide +kernel
theorem g_same260 (S : StM) (hS : S.Ok) (v : Int) : rdC (wrS S 516 v) 260 = rdC S 260 := by
  have e1 : wrS S 516 v = S.setC 3 (putI (S.C 3) (v * 2 % 18446744073709551616) 1088) := by rfl
  have e2 : ∀ T : StM, rdC T 260 = bits .and .u64 (T.C 3) 544 := fun T => rfl
  rw [e1, e2, e2, StM.setC_at]
  exact put_apart _ _ _ _ (hS.C 3 (by omega)) ⟨by omega, by omega⟩ (by unfold U; omega) (by unfold U; omega) (by decide +kernel)
theorem g_ok261 : okC 261 = true := by decide +kernel
theorem g_okr261 : okC 517 = true := by decide +kernel
theorem g_same261 (S : StM) (v : Int) : rdC (wrS S 517 v) 261 = rdC S 261 := by
  rfl
theorem g_ok320 : okC 320 = true := by decide +kernel
theorem g_okr320 : okC 576 = true := by decide +kernel
theorem g_same320 (S : StM) (v : Int) : rdC (wrS S 576 v) 320 = rdC S 320 := by
  rfl
theorem g_ok321 : okC 321 = true := by decide +kernel
theorem g_okr321 : okC 577 = true := by decide +kernel
theorem g_same321 (S : StM) (v : Int) : rdC (wrS S 577 v) 321 = rdC S 321 := by
  rfl
theorem g_ok322 : okC 322 = true := by decide +kernel
theorem g_okr322 : okC 578 = true := by decide +kernel
theorem g_same322 (S : StM) (v : Int) : rdC (wrS S 578 v) 322 = rdC S 322 := by
  rfl
theorem g_ok323 : okC 323 = true := by decide +kernel
theorem g_okr323 : okC 579 = true := by decide +kernel
theorem g_same323 (S : StM) (v : Int) : rdC (wrS S 579 v) 323 = rdC S 323 := by
  rfl
theorem g_ok384 : okC 384 = true := by decide +kernel
theorem g_okr384 : okC 640 = true := by decide +kernel
theorem g_same384 (S : StM) (v : Int) : rdC (wrS S 640 v) 384 = rdC S 384 := by
  rfl
set_option maxRecDepth 10000 in
set_option maxHeartbeats 1000000 in
theorem cguest_no (S : StM) (n v : Int) (hr : redI n = n) {W : World} (hT : Tab8 W) :
    Calls Tryd.prog 7 #[.agg (rowOf 65 (stF S)), .int .i64 n, .int .u64 v] W fun e w' => e = .returned (.bool true) ∧ Kept W w' := by
  go_enter Tryd.func7, Tryd.ntmps7
  go_wp2_with fail
  refine (known8_any hT ((Only.refl _ W).alloc _)).mono ?_
  rintro e w1 ⟨rfl, g1⟩
  have k1 := kept_boxed g1
  have h1 := (st_new W S).kept g1
  go_wp2_with fail
  refine (cred_any (hT.kept k1) _).mono ?_
  rintro e w2 ⟨rfl, g2⟩
  have k2 := k1.then g2
  have h2 := h1.kept g2
  rw [hr]
  go_wp2_with fail
  refine (cred_any (hT.kept k2) _).mono ?_
  rintro e w3 ⟨rfl, g3⟩
  rw [hr]
  go_wp2
  go_ret
  exact ⟨rfl, k2.then g3⟩
set_option maxRecDepth 10000 in
set_option maxHeartbeats 1000000 in
theorem cguest_256 (S : StM) (hS : S.Ok) (v : Int) (hv : U v) {W : World} (hT : Tab8 W) :
    Calls Tryd.prog 7 #[.agg (rowOf 65 (stF S)), .int .i64 256, .int .u64 v] W fun e w' => e = .returned (.bool true) ∧ Kept W w' := by
  have r1 : redI 256 = 512 := by decide
  have r2 : redI 512 = 512 := by decide
  go_enter Tryd.func7, Tryd.ntmps7
  go_wp2_with fail
  refine (known8_any hT ((Only.refl _ W).alloc _)).mono ?_
  rintro e w1 ⟨rfl, g1⟩
  have k1 := kept_boxed g1
  have h1 := (st_new W S).kept g1
  go_wp2_with fail
  refine (cred_any (hT.kept k1) _).mono ?_
  rintro e w2 ⟨rfl, g2⟩
  have k2 := k1.then g2
  have h2 := h1.kept g2
  rw [r1]
  go_wp2_with fail
  refine (cred_any (hT.kept k2) _).mono ?_
  rintro e w3 ⟨rfl, g3⟩
  have k3 := k2.then g3
  have h3 := h2.kept g3
  rw [r2]
  go_wp2_with refine wpList_load_is (by rfl) 26 _ rfl rfl h3 _ Tryd.underlying26 rfl st_size ?_
  refine (cwrite_any (hT.kept k3) hS _ _ hv).mono ?_
  rintro e w4 ⟨rfl, g4⟩
  rw [g_okr256]
  have k4 := (k3.then g4).alloc (.cells (rowOf 65 (stF (wrS S 512 v))) 26)
  have h4 : StAt (w4.alloc (.cells (rowOf 65 (stF (wrS S 512 v))) 26)) W.heap.size S := World.rowIs.alloc (h3.kept g4) _
  have t4 := st_new w4 (wrS S 512 v)
  go_wp2_with first | refine wpList_alloc_is rfl 26 rfl (rowOf 65 zF) st_zero ?_ | (refine wpList_store_is rfl 26 _ _ rfl rfl rfl (row_alloc _ 65 zF _) st_size (fun i _ => stF_one _ i) ?_; rw [World.setRow_alloc_new]) | refine wpList_load_is (by rfl) 26 _ rfl rfl h4 _ Tryd.underlying26 rfl st_size ?_
  refine (cread_any (hT.kept k4) hS _).mono ?_
  rintro e w5 ⟨rfl, g5⟩
  rw [g_ok256]
  have k5 := k4.then g5
  have t5 := t4.kept g5
  go_wp2_with refine wpList_load_is (by rfl) 26 _ rfl rfl t5 _ Tryd.underlying26 rfl st_size ?_
  refine (cread_any (hT.kept k5) (hS.write _ _) _).mono ?_
  rintro e w6 ⟨rfl, g6⟩
  rw [g_ok256, g_same256 S v]
  have hq : (rdC S 256 == rdC S 256) = true := beq_self_eq_true _
  go_wp2
  go_ret
  exact ⟨rfl, k5.then g6⟩
set_option maxRecDepth 10000 in
set_option maxHeartbeats 1000000 in
theorem cguest_260 (S : StM) (hS : S.Ok) (v : Int) (hv : U v) {W : World} (hT : Tab8 W) :
    Calls Tryd.prog 7 #[.agg (rowOf 65 (stF S)), .int .i64 260, .int .u64 v] W fun e w' => e = .returned (.bool true) ∧ Kept W w' := by
  have r1 : redI 260 = 516 := by decide
  have r2 : redI 516 = 516 := by decide
  go_enter Tryd.func7, Tryd.ntmps7
  go_wp2_with fail
  refine (known8_any hT ((Only.refl _ W).alloc _)).mono ?_
  rintro e w1 ⟨rfl, g1⟩
  have k1 := kept_boxed g1
  have h1 := (st_new W S).kept g1
  go_wp2_with fail
  refine (cred_any (hT.kept k1) _).mono ?_
  rintro e w2 ⟨rfl, g2⟩
  have k2 := k1.then g2
  have h2 := h1.kept g2
  rw [r1]
  go_wp2_with fail
  refine (cred_any (hT.kept k2) _).mono ?_
  rintro e w3 ⟨rfl, g3⟩
  have k3 := k2.then g3
  have h3 := h2.kept g3
  rw [r2]
  go_wp2_with refine wpList_load_is (by rfl) 26 _ rfl rfl h3 _ Tryd.underlying26 rfl st_size ?_
  refine (cwrite_any (hT.kept k3) hS _ _ hv).mono ?_
  rintro e w4 ⟨rfl, g4⟩
  rw [g_okr260]
  have k4 := (k3.then g4).alloc (.cells (rowOf 65 (stF (wrS S 516 v))) 26)
  have h4 : StAt (w4.alloc (.cells (rowOf 65 (stF (wrS S 516 v))) 26)) W.heap.size S := World.rowIs.alloc (h3.kept g4) _
  have t4 := st_new w4 (wrS S 516 v)
  go_wp2_with first | refine wpList_alloc_is rfl 26 rfl (rowOf 65 zF) st_zero ?_ | (refine wpList_store_is rfl 26 _ _ rfl rfl rfl (row_alloc _ 65 zF _) st_size (fun i _ => stF_one _ i) ?_; rw [World.setRow_alloc_new]) | refine wpList_load_is (by rfl) 26 _ rfl rfl h4 _ Tryd.underlying26 rfl st_size ?_
  refine (cread_any (hT.kept k4) hS _).mono ?_
  rintro e w5 ⟨rfl, g5⟩
  rw [g_ok260]
  have k5 := k4.then g5
  have t5 := t4.kept g5
  go_wp2_with refine wpList_load_is (by rfl) 26 _ rfl rfl t5 _ Tryd.underlying26 rfl st_size ?_
  refine (cread_any (hT.kept k5) (hS.write _ _) _).mono ?_
  rintro e w6 ⟨rfl, g6⟩
  rw [g_ok260, g_same260 S hS v]
  have hq : (rdC S 260 == rdC S 260) = true := beq_self_eq_true _
  go_wp2
  go_ret
  exact ⟨rfl, k5.then g6⟩
set_option maxRecDepth 10000 in
set_option maxHeartbeats 1000000 in
theorem cguest_261 (S : StM) (hS : S.Ok) (v : Int) (hv : U v) {W : World} (hT : Tab8 W) :
    Calls Tryd.prog 7 #[.agg (rowOf 65 (stF S)), .int .i64 261, .int .u64 v] W fun e w' => e = .returned (.bool true) ∧ Kept W w' := by
  have r1 : redI 261 = 517 := by decide
  have r2 : redI 517 = 517 := by decide
  go_enter Tryd.func7, Tryd.ntmps7
  go_wp2_with fail
  refine (known8_any hT ((Only.refl _ W).alloc _)).mono ?_
  rintro e w1 ⟨rfl, g1⟩
  have k1 := kept_boxed g1
  have h1 := (st_new W S).kept g1
  go_wp2_with fail
  refine (cred_any (hT.kept k1) _).mono ?_
  rintro e w2 ⟨rfl, g2⟩
  have k2 := k1.then g2
  have h2 := h1.kept g2
  rw [r1]
  go_wp2_with fail
  refine (cred_any (hT.kept k2) _).mono ?_
  rintro e w3 ⟨rfl, g3⟩
  have k3 := k2.then g3
  have h3 := h2.kept g3
  rw [r2]
  go_wp2_with refine wpList_load_is (by rfl) 26 _ rfl rfl h3 _ Tryd.underlying26 rfl st_size ?_
  refine (cwrite_any (hT.kept k3) hS _ _ hv).mono ?_
  rintro e w4 ⟨rfl, g4⟩
  rw [g_okr261]
  have k4 := (k3.then g4).alloc (.cells (rowOf 65 (stF (wrS S 517 v))) 26)
  have h4 : StAt (w4.alloc (.cells (rowOf 65 (stF (wrS S 517 v))) 26)) W.heap.size S := World.rowIs.alloc (h3.kept g4) _
  have t4 := st_new w4 (wrS S 517 v)
  go_wp2_with first | refine wpList_alloc_is rfl 26 rfl (rowOf 65 zF) st_zero ?_ | (refine wpList_store_is rfl 26 _ _ rfl rfl rfl (row_alloc _ 65 zF _) st_size (fun i _ => stF_one _ i) ?_; rw [World.setRow_alloc_new]) | refine wpList_load_is (by rfl) 26 _ rfl rfl h4 _ Tryd.underlying26 rfl st_size ?_
  refine (cread_any (hT.kept k4) hS _).mono ?_
  rintro e w5 ⟨rfl, g5⟩
  rw [g_ok261]
  have k5 := k4.then g5
  have t5 := t4.kept g5
  go_wp2_with refine wpList_load_is (by rfl) 26 _ rfl rfl t5 _ Tryd.underlying26 rfl st_size ?_
  refine (cread_any (hT.kept k5) (hS.write _ _) _).mono ?_
  rintro e w6 ⟨rfl, g6⟩
  rw [g_ok261, g_same261 S v]
  have hq : (rdC S 261 == rdC S 261) = true := beq_self_eq_true _
  go_wp2
  go_ret
  exact ⟨rfl, k5.then g6⟩
set_option maxRecDepth 10000 in
set_option maxHeartbeats 1000000 in
theorem cguest_320 (S : StM) (hS : S.Ok) (v : Int) (hv : U v) {W : World} (hT : Tab8 W) :
    Calls Tryd.prog 7 #[.agg (rowOf 65 (stF S)), .int .i64 320, .int .u64 v] W fun e w' => e = .returned (.bool true) ∧ Kept W w' := by
  have r1 : redI 320 = 576 := by decide
  have r2 : redI 576 = 576 := by decide
  go_enter Tryd.func7, Tryd.ntmps7
  go_wp2_with fail
  refine (known8_any hT ((Only.refl _ W).alloc _)).mono ?_
  rintro e w1 ⟨rfl, g1⟩
  have k1 := kept_boxed g1
  have h1 := (st_new W S).kept g1
  go_wp2_with fail
  refine (cred_any (hT.kept k1) _).mono ?_
  rintro e w2 ⟨rfl, g2⟩
  have k2 := k1.then g2
  have h2 := h1.kept g2
  rw [r1]
  go_wp2_with fail
  refine (cred_any (hT.kept k2) _).mono ?_
  rintro e w3 ⟨rfl, g3⟩
  have k3 := k2.then g3
  have h3 := h2.kept g3
  rw [r2]
  go_wp2_with refine wpList_load_is (by rfl) 26 _ rfl rfl h3 _ Tryd.underlying26 rfl st_size ?_
  refine (cwrite_any (hT.kept k3) hS _ _ hv).mono ?_
  rintro e w4 ⟨rfl, g4⟩
  rw [g_okr320]
  have k4 := (k3.then g4).alloc (.cells (rowOf 65 (stF (wrS S 576 v))) 26)
  have h4 : StAt (w4.alloc (.cells (rowOf 65 (stF (wrS S 576 v))) 26)) W.heap.size S := World.rowIs.alloc (h3.kept g4) _
  have t4 := st_new w4 (wrS S 576 v)
  go_wp2_with first | refine wpList_alloc_is rfl 26 rfl (rowOf 65 zF) st_zero ?_ | (refine wpList_store_is rfl 26 _ _ rfl rfl rfl (row_alloc _ 65 zF _) st_size (fun i _ => stF_one _ i) ?_; rw [World.setRow_alloc_new]) | refine wpList_load_is (by rfl) 26 _ rfl rfl h4 _ Tryd.underlying26 rfl st_size ?_
  refine (cread_any (hT.kept k4) hS _).mono ?_
  rintro e w5 ⟨rfl, g5⟩
  rw [g_ok320]
  have k5 := k4.then g5
  have t5 := t4.kept g5
  go_wp2_with refine wpList_load_is (by rfl) 26 _ rfl rfl t5 _ Tryd.underlying26 rfl st_size ?_
  refine (cread_any (hT.kept k5) (hS.write _ _) _).mono ?_
  rintro e w6 ⟨rfl, g6⟩
  rw [g_ok320, g_same320 S v]
  have hq : (rdC S 320 == rdC S 320) = true := beq_self_eq_true _
  go_wp2
  go_ret
  exact ⟨rfl, k5.then g6⟩
set_option maxRecDepth 10000 in
set_option maxHeartbeats 1000000 in
theorem cguest_321 (S : StM) (hS : S.Ok) (v : Int) (hv : U v) {W : World} (hT : Tab8 W) :
    Calls Tryd.prog 7 #[.agg (rowOf 65 (stF S)), .int .i64 321, .int .u64 v] W fun e w' => e = .returned (.bool true) ∧ Kept W w' := by
  have r1 : redI 321 = 577 := by decide
  have r2 : redI 577 = 577 := by decide
  go_enter Tryd.func7, Tryd.ntmps7
  go_wp2_with fail
  refine (known8_any hT ((Only.refl _ W).alloc _)).mono ?_
  rintro e w1 ⟨rfl, g1⟩
  have k1 := kept_boxed g1
  have h1 := (st_new W S).kept g1
  go_wp2_with fail
  refine (cred_any (hT.kept k1) _).mono ?_
  rintro e w2 ⟨rfl, g2⟩
  have k2 := k1.then g2
  have h2 := h1.kept g2
  rw [r1]
  go_wp2_with fail
  refine (cred_any (hT.kept k2) _).mono ?_
  rintro e w3 ⟨rfl, g3⟩
  have k3 := k2.then g3
  have h3 := h2.kept g3
  rw [r2]
  go_wp2_with refine wpList_load_is (by rfl) 26 _ rfl rfl h3 _ Tryd.underlying26 rfl st_size ?_
  refine (cwrite_any (hT.kept k3) hS _ _ hv).mono ?_
  rintro e w4 ⟨rfl, g4⟩
  rw [g_okr321]
  have k4 := (k3.then g4).alloc (.cells (rowOf 65 (stF (wrS S 577 v))) 26)
  have h4 : StAt (w4.alloc (.cells (rowOf 65 (stF (wrS S 577 v))) 26)) W.heap.size S := World.rowIs.alloc (h3.kept g4) _
  have t4 := st_new w4 (wrS S 577 v)
  go_wp2_with first | refine wpList_alloc_is rfl 26 rfl (rowOf 65 zF) st_zero ?_ | (refine wpList_store_is rfl 26 _ _ rfl rfl rfl (row_alloc _ 65 zF _) st_size (fun i _ => stF_one _ i) ?_; rw [World.setRow_alloc_new]) | refine wpList_load_is (by rfl) 26 _ rfl rfl h4 _ Tryd.underlying26 rfl st_size ?_
  refine (cread_any (hT.kept k4) hS _).mono ?_
  rintro e w5 ⟨rfl, g5⟩
  rw [g_ok321]
  have k5 := k4.then g5
  have t5 := t4.kept g5
  go_wp2_with refine wpList_load_is (by rfl) 26 _ rfl rfl t5 _ Tryd.underlying26 rfl st_size ?_
  refine (cread_any (hT.kept k5) (hS.write _ _) _).mono ?_
  rintro e w6 ⟨rfl, g6⟩
  rw [g_ok321, g_same321 S v]
  have hq : (rdC S 321 == rdC S 321) = true := beq_self_eq_true _
  go_wp2
  go_ret
  exact ⟨rfl, k5.then g6⟩
set_option maxRecDepth 10000 in
set_option maxHeartbeats 1000000 in
theorem cguest_322 (S : StM) (hS : S.Ok) (v : Int) (hv : U v) {W : World} (hT : Tab8 W) :
    Calls Tryd.prog 7 #[.agg (rowOf 65 (stF S)), .int .i64 322, .int .u64 v] W fun e w' => e = .returned (.bool true) ∧ Kept W w' := by
  have r1 : redI 322 = 578 := by decide
  have r2 : redI 578 = 578 := by decide
  go_enter Tryd.func7, Tryd.ntmps7
  go_wp2_with fail
  refine (known8_any hT ((Only.refl _ W).alloc _)).mono ?_
  rintro e w1 ⟨rfl, g1⟩
  have k1 := kept_boxed g1
  have h1 := (st_new W S).kept g1
  go_wp2_with fail
  refine (cred_any (hT.kept k1) _).mono ?_
  rintro e w2 ⟨rfl, g2⟩
  have k2 := k1.then g2
  have h2 := h1.kept g2
  rw [r1]
  go_wp2_with fail
  refine (cred_any (hT.kept k2) _).mono ?_
  rintro e w3 ⟨rfl, g3⟩
  have k3 := k2.then g3
  have h3 := h2.kept g3
  rw [r2]
  go_wp2_with refine wpList_load_is (by rfl) 26 _ rfl rfl h3 _ Tryd.underlying26 rfl st_size ?_
  refine (cwrite_any (hT.kept k3) hS _ _ hv).mono ?_
  rintro e w4 ⟨rfl, g4⟩
  rw [g_okr322]
  have k4 := (k3.then g4).alloc (.cells (rowOf 65 (stF (wrS S 578 v))) 26)
  have h4 : StAt (w4.alloc (.cells (rowOf 65 (stF (wrS S 578 v))) 26)) W.heap.size S := World.rowIs.alloc (h3.kept g4) _
  have t4 := st_new w4 (wrS S 578 v)
  go_wp2_with first | refine wpList_alloc_is rfl 26 rfl (rowOf 65 zF) st_zero ?_ | (refine wpList_store_is rfl 26 _ _ rfl rfl rfl (row_alloc _ 65 zF _) st_size (fun i _ => stF_one _ i) ?_; rw [World.setRow_alloc_new]) | refine wpList_load_is (by rfl) 26 _ rfl rfl h4 _ Tryd.underlying26 rfl st_size ?_
  refine (cread_any (hT.kept k4) hS _).mono ?_
  rintro e w5 ⟨rfl, g5⟩
  rw [g_ok322]
  have k5 := k4.then g5
  have t5 := t4.kept g5
  go_wp2_with refine wpList_load_is (by rfl) 26 _ rfl rfl t5 _ Tryd.underlying26 rfl st_size ?_
  refine (cread_any (hT.kept k5) (hS.write _ _) _).mono ?_
  rintro e w6 ⟨rfl, g6⟩
  rw [g_ok322, g_same322 S v]
  have hq : (rdC S 322 == rdC S 322) = true := beq_self_eq_true _
  go_wp2
  go_ret
  exact ⟨rfl, k5.then g6⟩
set_option maxRecDepth 10000 in
set_option maxHeartbeats 1000000 in
theorem cguest_323 (S : StM) (hS : S.Ok) (v : Int) (hv : U v) {W : World} (hT : Tab8 W) :
    Calls Tryd.prog 7 #[.agg (rowOf 65 (stF S)), .int .i64 323, .int .u64 v] W fun e w' => e = .returned (.bool true) ∧ Kept W w' := by
  have r1 : redI 323 = 579 := by decide
  have r2 : redI 579 = 579 := by decide
  go_enter Tryd.func7, Tryd.ntmps7
  go_wp2_with fail
  refine (known8_any hT ((Only.refl _ W).alloc _)).mono ?_
  rintro e w1 ⟨rfl, g1⟩
  have k1 := kept_boxed g1
  have h1 := (st_new W S).kept g1
  go_wp2_with fail
  refine (cred_any (hT.kept k1) _).mono ?_
  rintro e w2 ⟨rfl, g2⟩
  have k2 := k1.then g2
  have h2 := h1.kept g2
  rw [r1]
  go_wp2_with fail
  refine (cred_any (hT.kept k2) _).mono ?_
  rintro e w3 ⟨rfl, g3⟩
  have k3 := k2.then g3
  have h3 := h2.kept g3
  rw [r2]
  go_wp2_with refine wpList_load_is (by rfl) 26 _ rfl rfl h3 _ Tryd.underlying26 rfl st_size ?_
  refine (cwrite_any (hT.kept k3) hS _ _ hv).mono ?_
  rintro e w4 ⟨rfl, g4⟩
  rw [g_okr323]
  have k4 := (k3.then g4).alloc (.cells (rowOf 65 (stF (wrS S 579 v))) 26)
  have h4 : StAt (w4.alloc (.cells (rowOf 65 (stF (wrS S 579 v))) 26)) W.heap.size S := World.rowIs.alloc (h3.kept g4) _
  have t4 := st_new w4 (wrS S 579 v)
  go_wp2_with first | refine wpList_alloc_is rfl 26 rfl (rowOf 65 zF) st_zero ?_ | (refine wpList_store_is rfl 26 _ _ rfl rfl rfl (row_alloc _ 65 zF _) st_size (fun i _ => stF_one _ i) ?_; rw [World.setRow_alloc_new]) | refine wpList_load_is (by rfl) 26 _ rfl rfl h4 _ Tryd.underlying26 rfl st_size ?_
  refine (cread_any (hT.kept k4) hS _).mono ?_
  rintro e w5 ⟨rfl, g5⟩
  rw [g_ok323]
  have k5 := k4.then g5
  have t5 := t4.kept g5
  go_wp2_with refine wpList_load_is (by rfl) 26 _ rfl rfl t5 _ Tryd.underlying26 rfl st_size ?_
  refine (cread_any (hT.kept k5) (hS.write _ _) _).mono ?_
  rintro e w6 ⟨rfl, g6⟩
  rw [g_ok323, g_same323 S v]
  have hq : (rdC S 323 == rdC S 323) = true := beq_self_eq_true _
  go_wp2
  go_ret
  exact ⟨rfl, k5.then g6⟩
set_option maxRecDepth 10000 in
set_option maxHeartbeats 1000000 in
theorem cguest_384 (S : StM) (hS : S.Ok) (v : Int) (hv : U v) {W : World} (hT : Tab8 W) :
    Calls Tryd.prog 7 #[.agg (rowOf 65 (stF S)), .int .i64 384, .int .u64 v] W fun e w' => e = .returned (.bool true) ∧ Kept W w' := by
  have r1 : redI 384 = 640 := by decide
  have r2 : redI 640 = 640 := by decide
  go_enter Tryd.func7, Tryd.ntmps7
  go_wp2_with fail
  refine (known8_any hT ((Only.refl _ W).alloc _)).mono ?_
  rintro e w1 ⟨rfl, g1⟩
  have k1 := kept_boxed g1
  have h1 := (st_new W S).kept g1
  go_wp2_with fail
  refine (cred_any (hT.kept k1) _).mono ?_
  rintro e w2 ⟨rfl, g2⟩
  have k2 := k1.then g2
  have h2 := h1.kept g2
  rw [r1]
  go_wp2_with fail
  refine (cred_any (hT.kept k2) _).mono ?_
  rintro e w3 ⟨rfl, g3⟩
  have k3 := k2.then g3
  have h3 := h2.kept g3
  rw [r2]
  go_wp2_with refine wpList_load_is (by rfl) 26 _ rfl rfl h3 _ Tryd.underlying26 rfl st_size ?_
  refine (cwrite_any (hT.kept k3) hS _ _ hv).mono ?_
  rintro e w4 ⟨rfl, g4⟩
  rw [g_okr384]
  have k4 := (k3.then g4).alloc (.cells (rowOf 65 (stF (wrS S 640 v))) 26)
  have h4 : StAt (w4.alloc (.cells (rowOf 65 (stF (wrS S 640 v))) 26)) W.heap.size S := World.rowIs.alloc (h3.kept g4) _
  have t4 := st_new w4 (wrS S 640 v)
  go_wp2_with first | refine wpList_alloc_is rfl 26 rfl (rowOf 65 zF) st_zero ?_ | (refine wpList_store_is rfl 26 _ _ rfl rfl rfl (row_alloc _ 65 zF _) st_size (fun i _ => stF_one _ i) ?_; rw [World.setRow_alloc_new]) | refine wpList_load_is (by rfl) 26 _ rfl rfl h4 _ Tryd.underlying26 rfl st_size ?_
  refine (cread_any (hT.kept k4) hS _).mono ?_
  rintro e w5 ⟨rfl, g5⟩
  rw [g_ok384]
  have k5 := k4.then g5
  have t5 := t4.kept g5
  go_wp2_with refine wpList_load_is (by rfl) 26 _ rfl rfl t5 _ Tryd.underlying26 rfl st_size ?_
  refine (cread_any (hT.kept k5) (hS.write _ _) _).mono ?_
  rintro e w6 ⟨rfl, g6⟩
  rw [g_ok384, g_same384 S v]
  have hq : (rdC S 384 == rdC S 384) = true := beq_self_eq_true _
  go_wp2
  go_ret
  exact ⟨rfl, k5.then g6⟩
theorem cguest_any (S : StM) (hS : S.Ok) (n v : Int) (hv : U v) {W : World} (hT : Tab8 W) :
    Calls Tryd.prog 7 #[.agg (rowOf 65 (stF S)), .int .i64 n, .int .u64 v] W fun e w' => e = .returned (.bool true) ∧ Kept W w' := by
  by_cases h : n = 256 ∨ n = 260 ∨ n = 261 ∨ n = 320 ∨ n = 321 ∨ n = 322 ∨ n = 323 ∨ n = 384
  · rcases h with rfl | rfl | rfl | rfl | rfl | rfl | rfl | rfl
    · exact cguest_256 S hS v hv hT
    · exact cguest_260 S hS v hv hT
    · exact cguest_261 S hS v hv hT
    · exact cguest_320 S hS v hv hT
    · exact cguest_321 S hS v hv hT
    · exact cguest_322 S hS v hv hT
    · exact cguest_323 S hS v hv hT
    · exact cguest_384 S hS v hv hT
  · exact cguest_no S n v (by unfold redI; rw [if_neg h]) hT
end Go.Proofs.YtebdokgfcjlplaaDoor
