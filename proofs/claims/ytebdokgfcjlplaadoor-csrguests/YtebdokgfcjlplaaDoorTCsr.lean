/-
  What package csr's Write answers: walked whole, for every argument, where the listed tables' cells stand.
-/
import Derived.Test.YtebdokgfcjlplaaDoorTRead8
import Derived.BigRegion
namespace Go.Proofs.YtebdokgfcjlplaaDoor
open Go.RowKit
theorem TwoS.alloc {W w : World} {b r : Nat} {S : StM} (h : TwoS W w b r S) (o : Obj) : TwoS W (w.alloc o) b r S := h.kept ((Only.refl _ w).alloc o)
section
variable {S : StM} {w : World}
set_option maxRecDepth 10000 in
set_option maxHeartbeats 1000000 in
theorem cwrite_in (hT : Tab8 w) (n v : Int) (hv : U v) (i : Nat) (hi : i < 29) (h0 : i ≠ 0) (he : idxI n = i) :
    Calls Tryd.prog 12 #[.agg (rowOf 65 (stF S)), .int .i64 n, .int .u64 v] w fun e w' => e = .returned (.tuple #[.agg (rowOf 65 (stF (S.setC i (putI (S.C i) v (maskI (i : Int)))))), .bool true]) ∧ Kept w w' := by
  have l0 : (0 : Int) ≤ (i : Int) := by omega
  have l1 : (i : Int) < 29 := by omega
  have lz : ((i : Int) == 0) = false := beq_eq_false_iff_ne.2 (by omega)
  have hq : (n == 3074) = false := beq_eq_false_iff_ne.2 (by rintro rfl; rw [idx_3074] at he; omega)
  have hw : IntKind.u64.wrap v = v := wrap_id hv
  go_enter Tryd.func12, Tryd.ntmps12
  go_wp2_with (refine wpList_alloc_is rfl 26 rfl (rowOf 65 zF) st_zero ?_)
  refine (win_in (hT.kept (((Only.refl _ w).alloc _).alloc _)) n i hi he).mono ?_
  rintro e w1 ⟨rfl, k1⟩
  have hT1 := (two_new (rowOf_size 65 zF) k1).alloc (.cells #[.int .i64 i, .int .u64 18446744073709551615, .int .u64 (maskI i), .int .u8 0] 43)
  have hc := hT1.s.c (i := i) hi
  have fz := hT1.s.frozen (35 + i)
  unfold winA
  clear h0 he
  go_wp2
  have c0 := cells_at w1 #[.int .i64 i, .int .u64 18446744073709551615, .int .u64 (maskI i), .int .u8 0] 43 0 _ rfl
  have c2 := cells_at w1 #[.int .i64 i, .int .u64 18446744073709551615, .int .u64 (maskI i), .int .u8 0] 43 2 _ rfl
  clear k1 hw hT
  generalize w1.alloc (.cells #[.int .i64 i, .int .u64 18446744073709551615, .int .u64 (maskI i), .int .u8 0] 43) = w2 at hT1 hc fz c0 c2 ⊢
  go_region
  have hT2 := (hT1.set (i := i) hi (putI (S.C i) v (maskI (i : Int)))).drew
  obtain ⟨F, hF⟩ := hT2.room
  go_wp2_with first | refine wpList_load_row rfl 26 _ rfl rfl hT2.s _ Tryd.underlying26 rfl st_size ?_ | refine wpList_store_is rfl 26 _ _ rfl rfl rfl hF st_size (fun i _ => stF_one _ i) ?_
  refine bodyPost_ret (results_cell2 rfl _ _ _ _ _ rfl (load_state hT2.out.1)) rfl ?_
  exact ⟨rfl, hT2.out.2⟩
set_option maxRecDepth 10000 in
set_option maxHeartbeats 1000000 in
theorem cwrite_0 (hT : Tab8 w) (n v : Int) (hv : U v) (he : idxI n = 0) :
    Calls Tryd.prog 12 #[.agg (rowOf 65 (stF S)), .int .i64 n, .int .u64 v] w fun e w' => e = .returned (.tuple #[.agg (rowOf 65 (stF (S.setC 0 (putI (S.C 0) (mppI v) (maskI 0))))), .bool true]) ∧ Kept w w' := by
  have hq : (n == 3074) = false := beq_eq_false_iff_ne.2 (by rintro rfl; rw [idx_3074] at he; omega)
  have hw : IntKind.u64.wrap v = v := wrap_id hv
  go_enter Tryd.func12, Tryd.ntmps12
  go_wp2_with (refine wpList_alloc_is rfl 26 rfl (rowOf 65 zF) st_zero ?_)
  refine (win_in (hT.kept (((Only.refl _ w).alloc _).alloc _)) n 0 (by omega) he).mono ?_
  rintro e w1 ⟨rfl, k1⟩
  have hT1 := (two_new (rowOf_size 65 zF) k1).alloc (.cells #[.int .i64 0, .int .u64 18446744073709551615, .int .u64 (maskI 0), .int .u8 0] 43)
  have hc := hT1.s.c (i := 0) (by omega)
  have fz := hT1.s.frozen (35 + 0)
  rw [show winA ((0 : Nat) : Int) 18446744073709551615 (maskI ((0 : Nat) : Int)) 0 = #[.int .i64 0, .int .u64 18446744073709551615, .int .u64 (maskI 0), .int .u8 0] from rfl]
  clear he
  go_wp2_with fail
  refine (clvl_any v hv _).mono ?_
  rintro e w' ⟨rfl, rfl⟩
  go_wp2
  have c0 := cells_at w1 #[.int .i64 0, .int .u64 18446744073709551615, .int .u64 (maskI 0), .int .u8 0] 43 0 _ rfl
  have c2 := cells_at w1 #[.int .i64 0, .int .u64 18446744073709551615, .int .u64 (maskI 0), .int .u8 0] 43 2 _ rfl
  clear k1 hw hT
  generalize w1.alloc (.cells #[.int .i64 0, .int .u64 18446744073709551615, .int .u64 (maskI 0), .int .u8 0] 43) = w2 at hT1 hc fz c0 c2 ⊢
  go_region
  have hT2 := (hT1.set (i := 0) (by omega) (putI (S.C 0) (mppI v) (maskI 0))).drew
  obtain ⟨F, hF⟩ := hT2.room
  go_wp2_with first | refine wpList_load_row rfl 26 _ rfl rfl hT2.s _ Tryd.underlying26 rfl st_size ?_ | refine wpList_store_is rfl 26 _ _ rfl rfl rfl hF st_size (fun i _ => stF_one _ i) ?_
  refine bodyPost_ret (results_cell2 rfl _ _ _ _ _ rfl (load_state hT2.out.1)) rfl ?_
  exact ⟨rfl, hT2.out.2⟩
set_option maxRecDepth 10000 in
set_option maxHeartbeats 1000000 in
theorem cwrite_256 (hT : Tab8 w) (v : Int) (hv : U v) :
    Calls Tryd.prog 12 #[.agg (rowOf 65 (stF S)), .int .i64 256, .int .u64 v] w fun e w' => e = .returned (.tuple #[.agg (rowOf 65 (stF (S.setC 0 (putI (S.C 0) (mppI v) 786722)))), .bool true]) ∧ Kept w w' := by
  have hw : IntKind.u64.wrap v = v := wrap_id hv
  go_enter Tryd.func12, Tryd.ntmps12
  go_wp2_with (refine wpList_alloc_is rfl 26 rfl (rowOf 65 zF) st_zero ?_)
  refine (win_view (hT.kept (((Only.refl _ w).alloc _).alloc _)) 0 (by omega) 256 rfl idx_256).mono ?_
  rintro e w1 ⟨rfl, k1⟩
  have hT1 := (two_new (rowOf_size 65 zF) k1).alloc (.cells #[.int .i64 0, .int .u64 786722, .int .u64 786722, .int .u8 0] 43)
  have hc := hT1.s.c (i := 0) (by omega)
  have fz := hT1.s.frozen (35 + 0)
  rw [show winA (vI 0) (vB 0) (vB 0) (vS 0) = #[.int .i64 0, .int .u64 786722, .int .u64 786722, .int .u8 0] from rfl]
  go_wp2_with fail
  refine (clvl_any v hv _).mono ?_
  rintro e w' ⟨rfl, rfl⟩
  go_wp2
  have c0 := cells_at w1 #[.int .i64 0, .int .u64 786722, .int .u64 786722, .int .u8 0] 43 0 _ rfl
  have c2 := cells_at w1 #[.int .i64 0, .int .u64 786722, .int .u64 786722, .int .u8 0] 43 2 _ rfl
  clear k1 hw hT
  generalize w1.alloc (.cells #[.int .i64 0, .int .u64 786722, .int .u64 786722, .int .u8 0] 43) = w2 at hT1 hc fz c0 c2 ⊢
  go_region
  have hT2 := (hT1.set (i := 0) (by omega) (putI (S.C 0) (mppI v) 786722)).drew
  obtain ⟨F, hF⟩ := hT2.room
  go_wp2_with first | refine wpList_load_row rfl 26 _ rfl rfl hT2.s _ Tryd.underlying26 rfl st_size ?_ | refine wpList_store_is rfl 26 _ _ rfl rfl rfl hF st_size (fun i _ => stF_one _ i) ?_
  refine bodyPost_ret (results_cell2 rfl _ _ _ _ _ rfl (load_state hT2.out.1)) rfl ?_
  exact ⟨rfl, hT2.out.2⟩
set_option maxRecDepth 10000 in
set_option maxHeartbeats 1000000 in
theorem cwrite_260 (hT : Tab8 w) (v : Int) (hv : U v) :
    Calls Tryd.prog 12 #[.agg (rowOf 65 (stF S)), .int .i64 260, .int .u64 v] w fun e w' => e = .returned (.tuple #[.agg (rowOf 65 (stF (S.setC 3 (putI (S.C 3) v 544)))), .bool true]) ∧ Kept w w' := by
  have hw : IntKind.u64.wrap v = v := wrap_id hv
  go_enter Tryd.func12, Tryd.ntmps12
  go_wp2_with (refine wpList_alloc_is rfl 26 rfl (rowOf 65 zF) st_zero ?_)
  refine (win_view (hT.kept (((Only.refl _ w).alloc _).alloc _)) 1 (by omega) 260 rfl idx_260).mono ?_
  rintro e w1 ⟨rfl, k1⟩
  have hT1 := (two_new (rowOf_size 65 zF) k1).alloc (.cells #[.int .i64 3, .int .u64 544, .int .u64 544, .int .u8 0] 43)
  have hc := hT1.s.c (i := 3) (by omega)
  have fz := hT1.s.frozen (35 + 3)
  rw [show winA (vI 1) (vB 1) (vB 1) (vS 1) = #[.int .i64 3, .int .u64 544, .int .u64 544, .int .u8 0] from rfl]
  go_wp2
  have c0 := cells_at w1 #[.int .i64 3, .int .u64 544, .int .u64 544, .int .u8 0] 43 0 _ rfl
  have c2 := cells_at w1 #[.int .i64 3, .int .u64 544, .int .u64 544, .int .u8 0] 43 2 _ rfl
  clear k1 hw hT
  generalize w1.alloc (.cells #[.int .i64 3, .int .u64 544, .int .u64 544, .int .u8 0] 43) = w2 at hT1 hc fz c0 c2 ⊢
  go_region
  have hT2 := (hT1.set (i := 3) (by omega) (putI (S.C 3) v 544)).drew
  obtain ⟨F, hF⟩ := hT2.room
  go_wp2_with first | refine wpList_load_row rfl 26 _ rfl rfl hT2.s _ Tryd.underlying26 rfl st_size ?_ | refine wpList_store_is rfl 26 _ _ rfl rfl rfl hF st_size (fun i _ => stF_one _ i) ?_
  refine bodyPost_ret (results_cell2 rfl _ _ _ _ _ rfl (load_state hT2.out.1)) rfl ?_
  exact ⟨rfl, hT2.out.2⟩
set_option maxRecDepth 10000 in
set_option maxHeartbeats 1000000 in
theorem cwrite_516 (hT : Tab8 w) (v : Int) (hv : U v) :
    Calls Tryd.prog 12 #[.agg (rowOf 65 (stF S)), .int .i64 516, .int .u64 v] w fun e w' => e = .returned (.tuple #[.agg (rowOf 65 (stF (S.setC 3 (putI (S.C 3) (v * 2 % 18446744073709551616) 1088)))), .bool true]) ∧ Kept w w' := by
  have hsh : IntKind.u64.wrap (v * 2) = v * 2 % 18446744073709551616 := IntKind.wrap_u64 _
  have v0 := hv.1
  have hw : IntKind.u64.wrap v = v := wrap_id hv
  go_enter Tryd.func12, Tryd.ntmps12
  go_wp2_with (refine wpList_alloc_is rfl 26 rfl (rowOf 65 zF) st_zero ?_)
  refine (win_view (hT.kept (((Only.refl _ w).alloc _).alloc _)) 2 (by omega) 516 rfl idx_516).mono ?_
  rintro e w1 ⟨rfl, k1⟩
  have hT1 := (two_new (rowOf_size 65 zF) k1).alloc (.cells #[.int .i64 3, .int .u64 1088, .int .u64 1088, .int .u8 1] 43)
  have hc := hT1.s.c (i := 3) (by omega)
  have fz := hT1.s.frozen (35 + 3)
  rw [show winA (vI 2) (vB 2) (vB 2) (vS 2) = #[.int .i64 3, .int .u64 1088, .int .u64 1088, .int .u8 1] from rfl]
  go_wp2
  have c0 := cells_at w1 #[.int .i64 3, .int .u64 1088, .int .u64 1088, .int .u8 1] 43 0 _ rfl
  have c2 := cells_at w1 #[.int .i64 3, .int .u64 1088, .int .u64 1088, .int .u8 1] 43 2 _ rfl
  clear k1 hw hT
  generalize w1.alloc (.cells #[.int .i64 3, .int .u64 1088, .int .u64 1088, .int .u8 1] 43) = w2 at hT1 hc fz c0 c2 ⊢
  go_region
  have hT2 := (hT1.set (i := 3) (by omega) (putI (S.C 3) (v * 2 % 18446744073709551616) 1088)).drew
  obtain ⟨F, hF⟩ := hT2.room
  go_wp2_with first | refine wpList_load_row rfl 26 _ rfl rfl hT2.s _ Tryd.underlying26 rfl st_size ?_ | refine wpList_store_is rfl 26 _ _ rfl rfl rfl hF st_size (fun i _ => stF_one _ i) ?_
  refine bodyPost_ret (results_cell2 rfl _ _ _ _ _ rfl (load_state hT2.out.1)) rfl ?_
  exact ⟨rfl, hT2.out.2⟩
set_option maxRecDepth 10000 in
set_option maxHeartbeats 1000000 in
theorem cwrite_3074 (v : Int) :
    Calls Tryd.prog 12 #[.agg (rowOf 65 (stF S)), .int .i64 3074, .int .u64 v] w fun e w' => e = .returned (.tuple #[.agg (rowOf 65 (stF S)), .bool true]) ∧ Kept w w' := by
  have hT := two_new (w := w) (S := S) (rowOf_size 65 zF) (Only.refl _ ((w.alloc (.cells (rowOf 65 (stF S)) 26)).alloc (.cells (rowOf 65 zF) 26)))
  obtain ⟨F, hF⟩ := hT.room
  go_enter Tryd.func12, Tryd.ntmps12
  go_wp2_with first | refine wpList_alloc_is rfl 26 rfl (rowOf 65 zF) st_zero ?_ | refine wpList_load_row rfl 26 _ rfl rfl hT.s _ Tryd.underlying26 rfl st_size ?_ | refine wpList_store_is rfl 26 _ _ rfl rfl rfl hF st_size (fun i _ => stF_one _ i) ?_
  refine bodyPost_ret (results_cell2 rfl _ _ _ _ _ rfl (load_state hT.out.1)) rfl ?_
  exact ⟨rfl, hT.out.2⟩
set_option maxRecDepth 10000 in
set_option maxHeartbeats 1000000 in
theorem cwrite_no (hT : Tab8 w) (n v : Int) (he : idxI n = -1) (n1 : ¬ n = 256) (n2 : ¬ n = 260) (n3 : ¬ n = 516) (n4 : ¬ n = 3074) :
    Calls Tryd.prog 12 #[.agg (rowOf 65 (stF S)), .int .i64 n, .int .u64 v] w fun e w' => e = .returned (.tuple #[.agg (rowOf 65 (stF S)), .bool false]) ∧ Kept w w' := by
  have m4 : (n == 3074) = false := beq_eq_false_iff_ne.2 n4
  have hno : ∀ j : Nat, j < 3 → vN j ≠ n := by
    intro j hj
    have : j = 0 ∨ j = 1 ∨ j = 2 := by omega
    rcases this with rfl | rfl | rfl
    · exact fun e => n1 e.symm
    · exact fun e => n2 e.symm
    · exact fun e => n3 e.symm
  clear n1 n2 n3 n4
  go_enter Tryd.func12, Tryd.ntmps12
  go_wp2_with (refine wpList_alloc_is rfl 26 rfl (rowOf 65 zF) st_zero ?_)
  refine (win_no (hT.kept (((Only.refl _ w).alloc _).alloc _)) n hno he).mono ?_
  rintro e w1 ⟨rfl, k1⟩
  have hT1 := (two_new (rowOf_size 65 zF) k1).alloc (.cells #[.int .i64 0, .int .u64 0, .int .u64 0, .int .u8 0] 43)
  obtain ⟨F, hF⟩ := hT1.room
  unfold winA
  go_wp2_with first | refine wpList_load_row rfl 26 _ rfl rfl hT1.s _ Tryd.underlying26 rfl st_size ?_ | refine wpList_store_is rfl 26 _ _ rfl rfl rfl hF st_size (fun i _ => stF_one _ i) ?_
  refine bodyPost_ret (results_cell2 rfl _ _ _ _ _ rfl (load_state hT1.out.1)) rfl ?_
  exact ⟨rfl, hT1.out.2⟩
theorem cwrite_any (hT : Tab8 w) (hS : S.Ok) (n v : Int) (hv : U v) :
    Calls Tryd.prog 12 #[.agg (rowOf 65 (stF S)), .int .i64 n, .int .u64 v] w fun e w' => e = .returned (.tuple #[.agg (rowOf 65 (stF (wrS S n v))), .bool (okC n)]) ∧ Kept w w' := by
  by_cases h : 0 ≤ idxI n
  · obtain ⟨i, hi, he, _⟩ := idx_yes h
    have e2 : okC n = true := decide_eq_true (.inl h)
    have e1 : wrS S n v = S.setC i (wrI i (S.C i) v) := by unfold wrS; rw [if_pos h, he, Int.toNat_natCast]
    rw [e1, e2]
    unfold wrI
    by_cases h0 : i = 0
    · subst h0
      rw [if_pos rfl, ← put_mpp (m := maskI 0) (hS.C 0 (by omega)) hv (U_mask 0 (by omega)) (by decide +kernel) (by decide +kernel)]
      exact cwrite_0 hT n v hv he
    · rw [if_neg h0]
      exact cwrite_in hT n v hv i hi h0 he
  · have he := (idx_no h).1
    by_cases n1 : n = 256
    · subst n1
      have e1 : wrS S 256 v = S.setC 0 (putI (S.C 0) (mppI v) 786722) := by
        rw [put_mpp_no (hS.C 0 (by omega)) hv (by unfold U; omega) (by decide +kernel) (by decide +kernel)]
        unfold wrS; rw [if_neg h, if_pos rfl]
      rw [e1]
      exact cwrite_256 hT v hv
    · by_cases n2 : n = 260
      · subst n2; exact cwrite_260 hT v hv
      · by_cases n3 : n = 516
        · subst n3; exact cwrite_516 hT v hv
        · have e1 : wrS S n v = S := by unfold wrS; rw [if_neg h, if_neg n1, if_neg n2, if_neg n3]
          rw [e1]
          by_cases n4 : n = 3074
          · subst n4; exact cwrite_3074 v
          · have e2 : okC n = false := decide_eq_false (by rintro (x | x | x | x | x); exact h x; exact n1 x; exact n2 x; exact n3 x; exact n4 x)
            rw [e2]
            exact cwrite_no hT n v he n1 n2 n3 n4
end
end Go.Proofs.YtebdokgfcjlplaaDoor
