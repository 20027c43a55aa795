/-
  What the document's guess says of a word (the reference of layers 3 and 4): walked, kind of operation by kind.
-/
import Derived.Test.YtbcmklojfmenjaaDoorRefGuessA
namespace Go.Proofs.YtbcmklojfmenjaaDoor
open Go.RowKit
set_option maxRecDepth 100000 in
set_option maxHeartbeats 1000000 in
theorem guess_H (op v : Int) (h0 : 28 ≤ op) (h1 : op ≤ 30) (hv0 : 0 ≤ v) (hv1 : v < 4294967296) (w : World) :
    Calls Tryd.prog 21 #[.int .i64 op, .int .u32 v] w fun e w' => e = .returned (.agg #[.int .i64 op, .int .i64 (gRd v), .int .i64 (gRs1 v), .int .i64 0, .int .i64 (g6 v), .int .i64 0]) ∧ Grown w w' := by
  have p1 : hasRd op = true := by unfold hasRd; exact decide_eq_true (by omega)
  have p2 : hasRs1 op = true := by unfold hasRs1; exact decide_eq_true (by omega)
  have p3 : hasRs2 op = false := by unfold hasRs2; exact decide_eq_false (by omega)
  have p4 : hasCsr op = false := by unfold hasCsr; exact decide_eq_false (by omega)
  have p5 : hasNum op = true := by unfold hasNum; exact decide_eq_true (by omega)
  have f1 : bits .and .u32 (v / 128) 31 = v / 128 % 32 := and31 (by omega) (by omega)
  have f2 : bits .and .u32 (v / 32768) 31 = v / 32768 % 32 := and31 (by omega) (by omega)
  have f3 : bits .and .u32 (v / 1048576) 31 = v / 1048576 % 32 := and31 (by omega) (by omega)
  have f4 : bits .and .u32 (v / 1048576) 63 = v / 1048576 % 64 := and63 (by omega) (by omega)
  have hc : clsI op = 5 := (cls_5 (by omega) (by omega)).symm
  go_enter Tryd.func21, Tryd.ntmps21
  go_wp2_with (first | (go_at_call 23; refine (rclass_any _ _).mono ?_; rintro e w' ⟨rfl, rfl⟩) | (go_at_call 34; refine (rparts_any _ _).mono ?_; rintro e w' ⟨rfl, rfl⟩) | (go_at_call 35; refine (rsx_12 _ ?_ ?_ _).mono ?_; (omega); (omega); rintro e w' ⟨rfl, rfl⟩))
  all_goals
    refine bodyPost_ret ?_ rfl ⟨rfl, ((Grown.refl _).alloc _ _).alloc _ _⟩
    simp [results, Tryd.results21, go_sem, gRd, gRs1, g6]
set_option maxRecDepth 100000 in
set_option maxHeartbeats 1000000 in
theorem guess_Iw (op v : Int) (h0 : 31 ≤ op) (h1 : op ≤ 31) (hv0 : 0 ≤ v) (hv1 : v < 4294967296) (w : World) :
    Calls Tryd.prog 21 #[.int .i64 op, .int .u32 v] w fun e w' => e = .returned (.agg #[.int .i64 op, .int .i64 (gRd v), .int .i64 (gRs1 v), .int .i64 0, .int .i64 (gI v), .int .i64 0]) ∧ Grown w w' := by
  have p1 : hasRd op = true := by unfold hasRd; exact decide_eq_true (by omega)
  have p2 : hasRs1 op = true := by unfold hasRs1; exact decide_eq_true (by omega)
  have p3 : hasRs2 op = false := by unfold hasRs2; exact decide_eq_false (by omega)
  have p4 : hasCsr op = false := by unfold hasCsr; exact decide_eq_false (by omega)
  have p5 : hasNum op = true := by unfold hasNum; exact decide_eq_true (by omega)
  have f1 : bits .and .u32 (v / 128) 31 = v / 128 % 32 := and31 (by omega) (by omega)
  have f2 : bits .and .u32 (v / 32768) 31 = v / 32768 % 32 := and31 (by omega) (by omega)
  have f3 : bits .and .u32 (v / 1048576) 31 = v / 1048576 % 32 := and31 (by omega) (by omega)
  have f4 : bits .and .u32 (v / 1048576) 63 = v / 1048576 % 64 := and63 (by omega) (by omega)
  have hc : clsI op = 5 := (cls_5 (by omega) (by omega)).symm
  go_enter Tryd.func21, Tryd.ntmps21
  go_wp2_with (first | (go_at_call 23; refine (rclass_any _ _).mono ?_; rintro e w' ⟨rfl, rfl⟩) | (go_at_call 34; refine (rparts_any _ _).mono ?_; rintro e w' ⟨rfl, rfl⟩) | (go_at_call 35; refine (rsx_12 _ ?_ ?_ _).mono ?_; (omega); (omega); rintro e w' ⟨rfl, rfl⟩))
  all_goals
    refine bodyPost_ret ?_ rfl ⟨rfl, ((Grown.refl _).alloc _ _).alloc _ _⟩
    simp [results, Tryd.results21, go_sem, gRd, gRs1, gI]
    try omega
set_option maxRecDepth 100000 in
set_option maxHeartbeats 1000000 in
theorem guess_Hw (op v : Int) (h0 : 32 ≤ op) (h1 : op ≤ 34) (hv0 : 0 ≤ v) (hv1 : v < 4294967296) (w : World) :
    Calls Tryd.prog 21 #[.int .i64 op, .int .u32 v] w fun e w' => e = .returned (.agg #[.int .i64 op, .int .i64 (gRd v), .int .i64 (gRs1 v), .int .i64 0, .int .i64 (g5 v), .int .i64 0]) ∧ Grown w w' := by
  have p1 : hasRd op = true := by unfold hasRd; exact decide_eq_true (by omega)
  have p2 : hasRs1 op = true := by unfold hasRs1; exact decide_eq_true (by omega)
  have p3 : hasRs2 op = false := by unfold hasRs2; exact decide_eq_false (by omega)
  have p4 : hasCsr op = false := by unfold hasCsr; exact decide_eq_false (by omega)
  have p5 : hasNum op = true := by unfold hasNum; exact decide_eq_true (by omega)
  have f1 : bits .and .u32 (v / 128) 31 = v / 128 % 32 := and31 (by omega) (by omega)
  have f2 : bits .and .u32 (v / 32768) 31 = v / 32768 % 32 := and31 (by omega) (by omega)
  have f3 : bits .and .u32 (v / 1048576) 31 = v / 1048576 % 32 := and31 (by omega) (by omega)
  have f4 : bits .and .u32 (v / 1048576) 63 = v / 1048576 % 64 := and63 (by omega) (by omega)
  have hc : clsI op = 5 := (cls_5 (by omega) (by omega)).symm
  go_enter Tryd.func21, Tryd.ntmps21
  go_wp2_with (first | (go_at_call 23; refine (rclass_any _ _).mono ?_; rintro e w' ⟨rfl, rfl⟩) | (go_at_call 34; refine (rparts_any _ _).mono ?_; rintro e w' ⟨rfl, rfl⟩) | (go_at_call 35; refine (rsx_12 _ ?_ ?_ _).mono ?_; (omega); (omega); rintro e w' ⟨rfl, rfl⟩))
  all_goals
    refine bodyPost_ret ?_ rfl ⟨rfl, ((Grown.refl _).alloc _ _).alloc _ _⟩
    simp [results, Tryd.results21, go_sem, gRd, gRs1, g5]
set_option maxRecDepth 100000 in
set_option maxHeartbeats 1000000 in
theorem guess_R (op v : Int) (h0 : 35 ≤ op) (h1 : op ≤ 49) (hv0 : 0 ≤ v) (hv1 : v < 4294967296) (w : World) :
    Calls Tryd.prog 21 #[.int .i64 op, .int .u32 v] w fun e w' => e = .returned (.agg #[.int .i64 op, .int .i64 (gRd v), .int .i64 (gRs1 v), .int .i64 (gRs2 v), .int .i64 0, .int .i64 0]) ∧ Grown w w' := by
  have p1 : hasRd op = true := by unfold hasRd; exact decide_eq_true (by omega)
  have p2 : hasRs1 op = true := by unfold hasRs1; exact decide_eq_true (by omega)
  have p3 : hasRs2 op = true := by unfold hasRs2; exact decide_eq_true (by omega)
  have p4 : hasCsr op = false := by unfold hasCsr; exact decide_eq_false (by omega)
  have p5 : hasNum op = false := by unfold hasNum; exact decide_eq_false (by omega)
  have f1 : bits .and .u32 (v / 128) 31 = v / 128 % 32 := and31 (by omega) (by omega)
  have f2 : bits .and .u32 (v / 32768) 31 = v / 32768 % 32 := and31 (by omega) (by omega)
  have f3 : bits .and .u32 (v / 1048576) 31 = v / 1048576 % 32 := and31 (by omega) (by omega)
  have f4 : bits .and .u32 (v / 1048576) 63 = v / 1048576 % 64 := and63 (by omega) (by omega)
  have hc : clsI op = 6 := (cls_6 (by omega) (by omega)).symm
  go_enter Tryd.func21, Tryd.ntmps21
  go_wp2_with (first | (go_at_call 23; refine (rclass_any _ _).mono ?_; rintro e w' ⟨rfl, rfl⟩) | (go_at_call 34; refine (rparts_any _ _).mono ?_; rintro e w' ⟨rfl, rfl⟩) | (go_at_call 35; refine (rsx_12 _ ?_ ?_ _).mono ?_; (omega); (omega); rintro e w' ⟨rfl, rfl⟩))
  all_goals
    refine bodyPost_ret ?_ rfl ⟨rfl, ((Grown.refl _).alloc _ _).alloc _ _⟩
    simp [results, Tryd.results21, go_sem, gRd, gRs1, gRs2]
set_option maxRecDepth 100000 in
set_option maxHeartbeats 1000000 in
theorem guess_F (op v : Int) (h0 : 50 ≤ op) (h1 : op ≤ 51) (hv0 : 0 ≤ v) (hv1 : v < 4294967296) (w : World) :
    Calls Tryd.prog 21 #[.int .i64 op, .int .u32 v] w fun e w' => e = .returned (.agg #[.int .i64 op, .int .i64 0, .int .i64 0, .int .i64 0, .int .i64 0, .int .i64 0]) ∧ Grown w w' := by
  have p1 : hasRd op = false := by unfold hasRd; exact decide_eq_false (by omega)
  have p2 : hasRs1 op = false := by unfold hasRs1; exact decide_eq_false (by omega)
  have p3 : hasRs2 op = false := by unfold hasRs2; exact decide_eq_false (by omega)
  have p4 : hasCsr op = false := by unfold hasCsr; exact decide_eq_false (by omega)
  have p5 : hasNum op = false := by unfold hasNum; exact decide_eq_false (by omega)
  have f1 : bits .and .u32 (v / 128) 31 = v / 128 % 32 := and31 (by omega) (by omega)
  have f2 : bits .and .u32 (v / 32768) 31 = v / 32768 % 32 := and31 (by omega) (by omega)
  have f3 : bits .and .u32 (v / 1048576) 31 = v / 1048576 % 32 := and31 (by omega) (by omega)
  have f4 : bits .and .u32 (v / 1048576) 63 = v / 1048576 % 64 := and63 (by omega) (by omega)
  have hc : clsI op = 7 := (cls_7 (by omega) (by omega)).symm
  go_enter Tryd.func21, Tryd.ntmps21
  go_wp2_with (first | (go_at_call 23; refine (rclass_any _ _).mono ?_; rintro e w' ⟨rfl, rfl⟩) | (go_at_call 34; refine (rparts_any _ _).mono ?_; rintro e w' ⟨rfl, rfl⟩) | (go_at_call 35; refine (rsx_12 _ ?_ ?_ _).mono ?_; (omega); (omega); rintro e w' ⟨rfl, rfl⟩))
  all_goals
    refine bodyPost_ret ?_ rfl ⟨rfl, ((Grown.refl _).alloc _ _).alloc _ _⟩
    simp [results, Tryd.results21, go_sem]
set_option maxRecDepth 100000 in
set_option maxHeartbeats 1000000 in
theorem guess_E (op v : Int) (h0 : 52 ≤ op) (h1 : op ≤ 53) (hv0 : 0 ≤ v) (hv1 : v < 4294967296) (w : World) :
    Calls Tryd.prog 21 #[.int .i64 op, .int .u32 v] w fun e w' => e = .returned (.agg #[.int .i64 op, .int .i64 0, .int .i64 0, .int .i64 0, .int .i64 0, .int .i64 0]) ∧ Grown w w' := by
  have p1 : hasRd op = false := by unfold hasRd; exact decide_eq_false (by omega)
  have p2 : hasRs1 op = false := by unfold hasRs1; exact decide_eq_false (by omega)
  have p3 : hasRs2 op = false := by unfold hasRs2; exact decide_eq_false (by omega)
  have p4 : hasCsr op = false := by unfold hasCsr; exact decide_eq_false (by omega)
  have p5 : hasNum op = false := by unfold hasNum; exact decide_eq_false (by omega)
  have f1 : bits .and .u32 (v / 128) 31 = v / 128 % 32 := and31 (by omega) (by omega)
  have f2 : bits .and .u32 (v / 32768) 31 = v / 32768 % 32 := and31 (by omega) (by omega)
  have f3 : bits .and .u32 (v / 1048576) 31 = v / 1048576 % 32 := and31 (by omega) (by omega)
  have f4 : bits .and .u32 (v / 1048576) 63 = v / 1048576 % 64 := and63 (by omega) (by omega)
  have hc : clsI op = 8 := (cls_8 (by omega) (by omega)).symm
  go_enter Tryd.func21, Tryd.ntmps21
  go_wp2_with (first | (go_at_call 23; refine (rclass_any _ _).mono ?_; rintro e w' ⟨rfl, rfl⟩) | (go_at_call 34; refine (rparts_any _ _).mono ?_; rintro e w' ⟨rfl, rfl⟩) | (go_at_call 35; refine (rsx_12 _ ?_ ?_ _).mono ?_; (omega); (omega); rintro e w' ⟨rfl, rfl⟩))
  all_goals
    refine bodyPost_ret ?_ rfl ⟨rfl, ((Grown.refl _).alloc _ _).alloc _ _⟩
    simp [results, Tryd.results21, go_sem]
set_option maxRecDepth 100000 in
set_option maxHeartbeats 1000000 in
theorem guess_C (op v : Int) (h0 : 54 ≤ op) (h1 : op ≤ 56) (hv0 : 0 ≤ v) (hv1 : v < 4294967296) (w : World) :
    Calls Tryd.prog 21 #[.int .i64 op, .int .u32 v] w fun e w' => e = .returned (.agg #[.int .i64 op, .int .i64 (gRd v), .int .i64 (gRs1 v), .int .i64 0, .int .i64 0, .int .i64 (gCsr v)]) ∧ Grown w w' := by
  have p1 : hasRd op = true := by unfold hasRd; exact decide_eq_true (by omega)
  have p2 : hasRs1 op = true := by unfold hasRs1; exact decide_eq_true (by omega)
  have p3 : hasRs2 op = false := by unfold hasRs2; exact decide_eq_false (by omega)
  have p4 : hasCsr op = true := by unfold hasCsr; exact decide_eq_true (by omega)
  have p5 : hasNum op = false := by unfold hasNum; exact decide_eq_false (by omega)
  have f1 : bits .and .u32 (v / 128) 31 = v / 128 % 32 := and31 (by omega) (by omega)
  have f2 : bits .and .u32 (v / 32768) 31 = v / 32768 % 32 := and31 (by omega) (by omega)
  have f3 : bits .and .u32 (v / 1048576) 31 = v / 1048576 % 32 := and31 (by omega) (by omega)
  have f4 : bits .and .u32 (v / 1048576) 63 = v / 1048576 % 64 := and63 (by omega) (by omega)
  have hc : clsI op = 9 := (cls_9 (by omega) (by omega)).symm
  go_enter Tryd.func21, Tryd.ntmps21
  go_wp2_with (first | (go_at_call 23; refine (rclass_any _ _).mono ?_; rintro e w' ⟨rfl, rfl⟩) | (go_at_call 34; refine (rparts_any _ _).mono ?_; rintro e w' ⟨rfl, rfl⟩) | (go_at_call 35; refine (rsx_12 _ ?_ ?_ _).mono ?_; (omega); (omega); rintro e w' ⟨rfl, rfl⟩))
  all_goals
    refine bodyPost_ret ?_ rfl ⟨rfl, ((Grown.refl _).alloc _ _).alloc _ _⟩
    simp [results, Tryd.results21, go_sem, gRd, gRs1, gCsr]
set_option maxRecDepth 100000 in
set_option maxHeartbeats 1000000 in
theorem guess_Ci (op v : Int) (h0 : 57 ≤ op) (h1 : op ≤ 59) (hv0 : 0 ≤ v) (hv1 : v < 4294967296) (w : World) :
    Calls Tryd.prog 21 #[.int .i64 op, .int .u32 v] w fun e w' => e = .returned (.agg #[.int .i64 op, .int .i64 (gRd v), .int .i64 0, .int .i64 0, .int .i64 (gZ v), .int .i64 (gCsr v)]) ∧ Grown w w' := by
  have p1 : hasRd op = true := by unfold hasRd; exact decide_eq_true (by omega)
  have p2 : hasRs1 op = false := by unfold hasRs1; exact decide_eq_false (by omega)
  have p3 : hasRs2 op = false := by unfold hasRs2; exact decide_eq_false (by omega)
  have p4 : hasCsr op = true := by unfold hasCsr; exact decide_eq_true (by omega)
  have p5 : hasNum op = true := by unfold hasNum; exact decide_eq_true (by omega)
  have f1 : bits .and .u32 (v / 128) 31 = v / 128 % 32 := and31 (by omega) (by omega)
  have f2 : bits .and .u32 (v / 32768) 31 = v / 32768 % 32 := and31 (by omega) (by omega)
  have f3 : bits .and .u32 (v / 1048576) 31 = v / 1048576 % 32 := and31 (by omega) (by omega)
  have f4 : bits .and .u32 (v / 1048576) 63 = v / 1048576 % 64 := and63 (by omega) (by omega)
  have hc : clsI op = 9 := (cls_9 (by omega) (by omega)).symm
  go_enter Tryd.func21, Tryd.ntmps21
  go_wp2_with (first | (go_at_call 23; refine (rclass_any _ _).mono ?_; rintro e w' ⟨rfl, rfl⟩) | (go_at_call 34; refine (rparts_any _ _).mono ?_; rintro e w' ⟨rfl, rfl⟩) | (go_at_call 35; refine (rsx_12 _ ?_ ?_ _).mono ?_; (omega); (omega); rintro e w' ⟨rfl, rfl⟩))
  all_goals
    refine bodyPost_ret ?_ rfl ⟨rfl, ((Grown.refl _).alloc _ _).alloc _ _⟩
    simp [results, Tryd.results21, go_sem, gRd, gZ, gCsr]
set_option maxRecDepth 100000 in
set_option maxHeartbeats 1000000 in
theorem guess_M (op v : Int) (h0 : 60 ≤ op) (h1 : op ≤ 62) (hv0 : 0 ≤ v) (hv1 : v < 4294967296) (w : World) :
    Calls Tryd.prog 21 #[.int .i64 op, .int .u32 v] w fun e w' => e = .returned (.agg #[.int .i64 op, .int .i64 0, .int .i64 0, .int .i64 0, .int .i64 0, .int .i64 0]) ∧ Grown w w' := by
  have p1 : hasRd op = false := by unfold hasRd; exact decide_eq_false (by omega)
  have p2 : hasRs1 op = false := by unfold hasRs1; exact decide_eq_false (by omega)
  have p3 : hasRs2 op = false := by unfold hasRs2; exact decide_eq_false (by omega)
  have p4 : hasCsr op = false := by unfold hasCsr; exact decide_eq_false (by omega)
  have p5 : hasNum op = false := by unfold hasNum; exact decide_eq_false (by omega)
  have f1 : bits .and .u32 (v / 128) 31 = v / 128 % 32 := and31 (by omega) (by omega)
  have f2 : bits .and .u32 (v / 32768) 31 = v / 32768 % 32 := and31 (by omega) (by omega)
  have f3 : bits .and .u32 (v / 1048576) 31 = v / 1048576 % 32 := and31 (by omega) (by omega)
  have f4 : bits .and .u32 (v / 1048576) 63 = v / 1048576 % 64 := and63 (by omega) (by omega)
  have hc : clsI op = 10 := (cls_10 (by omega) (by omega)).symm
  go_enter Tryd.func21, Tryd.ntmps21
  go_wp2_with (first | (go_at_call 23; refine (rclass_any _ _).mono ?_; rintro e w' ⟨rfl, rfl⟩) | (go_at_call 34; refine (rparts_any _ _).mono ?_; rintro e w' ⟨rfl, rfl⟩) | (go_at_call 35; refine (rsx_12 _ ?_ ?_ _).mono ?_; (omega); (omega); rintro e w' ⟨rfl, rfl⟩))
  all_goals
    refine bodyPost_ret ?_ rfl ⟨rfl, ((Grown.refl _).alloc _ _).alloc _ _⟩
    simp [results, Tryd.results21, go_sem]
set_option maxRecDepth 100000 in
set_option maxHeartbeats 1000000 in
theorem guess_V (op v : Int) (h0 : 63 ≤ op) (h1 : op ≤ 65) (hv0 : 0 ≤ v) (hv1 : v < 4294967296) (w : World) :
    Calls Tryd.prog 21 #[.int .i64 op, .int .u32 v] w fun e w' => e = .returned (.agg #[.int .i64 op, .int .i64 0, .int .i64 (gRs1 v), .int .i64 (gRs2 v), .int .i64 0, .int .i64 0]) ∧ Grown w w' := by
  have p1 : hasRd op = false := by unfold hasRd; exact decide_eq_false (by omega)
  have p2 : hasRs1 op = true := by unfold hasRs1; exact decide_eq_true (by omega)
  have p3 : hasRs2 op = true := by unfold hasRs2; exact decide_eq_true (by omega)
  have p4 : hasCsr op = false := by unfold hasCsr; exact decide_eq_false (by omega)
  have p5 : hasNum op = false := by unfold hasNum; exact decide_eq_false (by omega)
  have f1 : bits .and .u32 (v / 128) 31 = v / 128 % 32 := and31 (by omega) (by omega)
  have f2 : bits .and .u32 (v / 32768) 31 = v / 32768 % 32 := and31 (by omega) (by omega)
  have f3 : bits .and .u32 (v / 1048576) 31 = v / 1048576 % 32 := and31 (by omega) (by omega)
  have f4 : bits .and .u32 (v / 1048576) 63 = v / 1048576 % 64 := and63 (by omega) (by omega)
  have hc : clsI op = 11 := (cls_11 (by omega) (by omega)).symm
  go_enter Tryd.func21, Tryd.ntmps21
  go_wp2_with (first | (go_at_call 23; refine (rclass_any _ _).mono ?_; rintro e w' ⟨rfl, rfl⟩) | (go_at_call 34; refine (rparts_any _ _).mono ?_; rintro e w' ⟨rfl, rfl⟩) | (go_at_call 35; refine (rsx_12 _ ?_ ?_ _).mono ?_; (omega); (omega); rintro e w' ⟨rfl, rfl⟩))
  all_goals
    refine bodyPost_ret ?_ rfl ⟨rfl, ((Grown.refl _).alloc _ _).alloc _ _⟩
    simp [results, Tryd.results21, go_sem, gRs1, gRs2]
set_option maxRecDepth 100000 in
set_option maxHeartbeats 1000000 in
theorem guess_G (op v : Int) (h0 : 66 ≤ op) (h1 : op ≤ 68) (hv0 : 0 ≤ v) (hv1 : v < 4294967296) (w : World) :
    Calls Tryd.prog 21 #[.int .i64 op, .int .u32 v] w fun e w' => e = .returned (.agg #[.int .i64 op, .int .i64 (gRd v), .int .i64 (gRs1 v), .int .i64 0, .int .i64 0, .int .i64 0]) ∧ Grown w w' := by
  have p1 : hasRd op = true := by unfold hasRd; exact decide_eq_true (by omega)
  have p2 : hasRs1 op = true := by unfold hasRs1; exact decide_eq_true (by omega)
  have p3 : hasRs2 op = false := by unfold hasRs2; exact decide_eq_false (by omega)
  have p4 : hasCsr op = false := by unfold hasCsr; exact decide_eq_false (by omega)
  have p5 : hasNum op = false := by unfold hasNum; exact decide_eq_false (by omega)
  have f1 : bits .and .u32 (v / 128) 31 = v / 128 % 32 := and31 (by omega) (by omega)
  have f2 : bits .and .u32 (v / 32768) 31 = v / 32768 % 32 := and31 (by omega) (by omega)
  have f3 : bits .and .u32 (v / 1048576) 31 = v / 1048576 % 32 := and31 (by omega) (by omega)
  have f4 : bits .and .u32 (v / 1048576) 63 = v / 1048576 % 64 := and63 (by omega) (by omega)
  have hc : clsI op = 12 := (cls_12 (by omega) (by omega)).symm
  go_enter Tryd.func21, Tryd.ntmps21
  go_wp2_with (first | (go_at_call 23; refine (rclass_any _ _).mono ?_; rintro e w' ⟨rfl, rfl⟩) | (go_at_call 34; refine (rparts_any _ _).mono ?_; rintro e w' ⟨rfl, rfl⟩) | (go_at_call 35; refine (rsx_12 _ ?_ ?_ _).mono ?_; (omega); (omega); rintro e w' ⟨rfl, rfl⟩))
  all_goals
    refine bodyPost_ret ?_ rfl ⟨rfl, ((Grown.refl _).alloc _ _).alloc _ _⟩
    simp [results, Tryd.results21, go_sem, gRd, gRs1]
set_option maxRecDepth 100000 in
set_option maxHeartbeats 1000000 in
theorem guess_Gs (op v : Int) (h0 : 69 ≤ op) (h1 : op ≤ 69) (hv0 : 0 ≤ v) (hv1 : v < 4294967296) (w : World) :
    Calls Tryd.prog 21 #[.int .i64 op, .int .u32 v] w fun e w' => e = .returned (.agg #[.int .i64 op, .int .i64 0, .int .i64 (gRs1 v), .int .i64 (gRs2 v), .int .i64 0, .int .i64 0]) ∧ Grown w w' := by
  have p1 : hasRd op = false := by unfold hasRd; exact decide_eq_false (by omega)
  have p2 : hasRs1 op = true := by unfold hasRs1; exact decide_eq_true (by omega)
  have p3 : hasRs2 op = true := by unfold hasRs2; exact decide_eq_true (by omega)
  have p4 : hasCsr op = false := by unfold hasCsr; exact decide_eq_false (by omega)
  have p5 : hasNum op = false := by unfold hasNum; exact decide_eq_false (by omega)
  have f1 : bits .and .u32 (v / 128) 31 = v / 128 % 32 := and31 (by omega) (by omega)
  have f2 : bits .and .u32 (v / 32768) 31 = v / 32768 % 32 := and31 (by omega) (by omega)
  have f3 : bits .and .u32 (v / 1048576) 31 = v / 1048576 % 32 := and31 (by omega) (by omega)
  have f4 : bits .and .u32 (v / 1048576) 63 = v / 1048576 % 64 := and63 (by omega) (by omega)
  have hc : clsI op = 12 := (cls_12 (by omega) (by omega)).symm
  go_enter Tryd.func21, Tryd.ntmps21
  go_wp2_with (first | (go_at_call 23; refine (rclass_any _ _).mono ?_; rintro e w' ⟨rfl, rfl⟩) | (go_at_call 34; refine (rparts_any _ _).mono ?_; rintro e w' ⟨rfl, rfl⟩) | (go_at_call 35; refine (rsx_12 _ ?_ ?_ _).mono ?_; (omega); (omega); rintro e w' ⟨rfl, rfl⟩))
  all_goals
    refine bodyPost_ret ?_ rfl ⟨rfl, ((Grown.refl _).alloc _ _).alloc _ _⟩
    simp [results, Tryd.results21, go_sem, gRs1, gRs2]
    try omega
end Go.Proofs.YtbcmklojfmenjaaDoor
