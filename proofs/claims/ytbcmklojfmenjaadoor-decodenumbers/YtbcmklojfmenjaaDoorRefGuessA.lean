/-
  What the document's guess says of a word (the reference of layers 3 and 4): walked, kind of operation by kind.
-/
import Derived.Test.YtbcmklojfmenjaaDoorRefSext
namespace Go.Proofs.YtbcmklojfmenjaaDoor
open Go.RowKit
def gRd (v : Int) : Int := v / 128 % 32
def gRs1 (v : Int) : Int := v / 32768 % 32
def gRs2 (v : Int) : Int := v / 1048576 % 32
def gCsr (v : Int) : Int := v / 1048576
def gU (v : Int) : Int := sgn (v / 4096 * 4096) 2147483648
def gJ (v : Int) : Int := sgn (v / 2147483648 * 1048576 + v / 4096 % 256 * 4096 + v / 1048576 % 2 * 2048 + v / 2097152 % 1024 * 2) 1048576
def gB (v : Int) : Int := sgn (v / 2147483648 * 4096 + v / 128 % 2 * 2048 + v / 33554432 % 64 * 32 + v / 256 % 16 * 2) 4096
def gS (v : Int) : Int := sgn (v / 33554432 * 32 + v / 128 % 32) 2048
def gI (v : Int) : Int := sgn (v / 1048576) 2048
def g6 (v : Int) : Int := v / 1048576 % 64
def g5 (v : Int) : Int := v / 1048576 % 32
def gZ (v : Int) : Int := v / 32768 % 32
def fixI (op : Int) : Int := if op = 50 then 267386895 else if op = 51 then 4111 else if op = 52 then 115 else if op = 53 then 1048691 else if op = 60 then 807403635 else if op = 61 then 270532723 else if op = 62 then 273678451 else 0
set_option maxHeartbeats 1000000 in
theorem fixed_any (op : Int) (w : World) :
    Calls Tryd.prog 20 #[.int .i64 op] w fun e w' => e = .returned (.int .u32 (fixI op)) ∧ w' = w := by
  go_enter Tryd.func20, Tryd.ntmps20
  go_wp2
  all_goals
    go_ret
    refine ⟨ret_int ?_, rfl⟩
    go_light
    simp only [beq_iff_eq, beq_eq_false_iff_ne, ne_eq] at *
    simp [fixI, *]
set_option maxRecDepth 100000 in
set_option maxHeartbeats 1000000 in
theorem guess_U (op v : Int) (h0 : 1 ≤ op) (h1 : op ≤ 2) (hv0 : 0 ≤ v) (hv1 : v < 4294967296) (w : World) :
    Calls Tryd.prog 21 #[.int .i64 op, .int .u32 v] w fun e w' => e = .returned (.agg #[.int .i64 op, .int .i64 (gRd v), .int .i64 0, .int .i64 0, .int .i64 (gU v), .int .i64 0]) ∧ Grown w w' := by
  have p1 : hasRd op = true := by unfold hasRd; exact decide_eq_true (by omega)
  have p2 : hasRs1 op = false := by unfold hasRs1; exact decide_eq_false (by omega)
  have p3 : hasRs2 op = false := by unfold hasRs2; exact decide_eq_false (by omega)
  have p4 : hasCsr op = false := by unfold hasCsr; exact decide_eq_false (by omega)
  have p5 : hasNum op = true := by unfold hasNum; exact decide_eq_true (by omega)
  have f1 : bits .and .u32 (v / 128) 31 = v / 128 % 32 := and31 (by omega) (by omega)
  have f2 : bits .and .u32 (v / 32768) 31 = v / 32768 % 32 := and31 (by omega) (by omega)
  have f3 : bits .and .u32 (v / 1048576) 31 = v / 1048576 % 32 := and31 (by omega) (by omega)
  have f4 : bits .and .u32 (v / 1048576) 63 = v / 1048576 % 64 := and63 (by omega) (by omega)
  have f5 : bits .and .u32 v 4294963200 = v / 4096 * 4096 := and_top hv0 hv1
  have hc : clsI op = 1 := (cls_1 (by omega) (by omega)).symm
  go_enter Tryd.func21, Tryd.ntmps21
  go_wp2_with (first | (go_at_call 23; refine (rclass_any _ _).mono ?_; rintro e w' ⟨rfl, rfl⟩) | (go_at_call 34; refine (rparts_any _ _).mono ?_; rintro e w' ⟨rfl, rfl⟩) | (go_at_call 35; refine (rsx_32 _ ?_ ?_ _).mono ?_; (omega); (omega); rintro e w' ⟨rfl, rfl⟩))
  all_goals
    refine bodyPost_ret ?_ rfl ⟨rfl, ((Grown.refl _).alloc _ _).alloc _ _⟩
    simp [results, Tryd.results21, go_sem, gRd, gU]
set_option maxRecDepth 100000 in
set_option maxHeartbeats 1000000 in
theorem guess_J (op v : Int) (h0 : 3 ≤ op) (h1 : op ≤ 3) (hv0 : 0 ≤ v) (hv1 : v < 4294967296) (w : World) :
    Calls Tryd.prog 21 #[.int .i64 op, .int .u32 v] w fun e w' => e = .returned (.agg #[.int .i64 op, .int .i64 (gRd v), .int .i64 0, .int .i64 0, .int .i64 (gJ v), .int .i64 0]) ∧ Grown w w' := by
  have p1 : hasRd op = true := by unfold hasRd; exact decide_eq_true (by omega)
  have p2 : hasRs1 op = false := by unfold hasRs1; exact decide_eq_false (by omega)
  have p3 : hasRs2 op = false := by unfold hasRs2; exact decide_eq_false (by omega)
  have p4 : hasCsr op = false := by unfold hasCsr; exact decide_eq_false (by omega)
  have p5 : hasNum op = true := by unfold hasNum; exact decide_eq_true (by omega)
  have f1 : bits .and .u32 (v / 128) 31 = v / 128 % 32 := and31 (by omega) (by omega)
  have f2 : bits .and .u32 (v / 32768) 31 = v / 32768 % 32 := and31 (by omega) (by omega)
  have f3 : bits .and .u32 (v / 1048576) 31 = v / 1048576 % 32 := and31 (by omega) (by omega)
  have f4 : bits .and .u32 (v / 1048576) 63 = v / 1048576 % 64 := and63 (by omega) (by omega)
  have f5 : bits .and .u32 (v / 4096) 255 = v / 4096 % 256 := and255 (by omega) (by omega)
  have f6 : bits .and .u32 (v / 1048576) 1 = v / 1048576 % 2 := and1 (by omega) (by omega)
  have f7 : bits .and .u32 (v / 2097152) 1023 = v / 2097152 % 1024 := and1023 (by omega) (by omega)
  have o1 : bits .or .u32 (v / 2147483648 * 1048576) (v / 4096 % 256 * 4096) = v / 2147483648 * 1048576 + v / 4096 % 256 * 4096 := or32 20 (by omega) (by omega) (by omega) (by omega) (by omega) (by omega)
  have o2 : bits .or .u32 (v / 2147483648 * 1048576 + v / 4096 % 256 * 4096) (v / 1048576 % 2 * 2048) = v / 2147483648 * 1048576 + v / 4096 % 256 * 4096 + v / 1048576 % 2 * 2048 := or32 12 (by omega) (by omega) (by omega) (by omega) (by omega) (by omega)
  have o3 : bits .or .u32 (v / 2147483648 * 1048576 + v / 4096 % 256 * 4096 + v / 1048576 % 2 * 2048) (v / 2097152 % 1024 * 2) = v / 2147483648 * 1048576 + v / 4096 % 256 * 4096 + v / 1048576 % 2 * 2048 + v / 2097152 % 1024 * 2 := or32 11 (by omega) (by omega) (by omega) (by omega) (by omega) (by omega)
  have hc : clsI op = 1 := (cls_1 (by omega) (by omega)).symm
  go_enter Tryd.func21, Tryd.ntmps21
  go_wp2_with (first | (go_at_call 23; refine (rclass_any _ _).mono ?_; rintro e w' ⟨rfl, rfl⟩) | (go_at_call 34; refine (rparts_any _ _).mono ?_; rintro e w' ⟨rfl, rfl⟩) | (go_at_call 35; refine (rsx_21 _ ?_ ?_ _).mono ?_; (omega); (omega); rintro e w' ⟨rfl, rfl⟩))
  all_goals
    refine bodyPost_ret ?_ rfl ⟨rfl, ((Grown.refl _).alloc _ _).alloc _ _⟩
    simp [results, Tryd.results21, go_sem, gRd, gJ]
    try omega
set_option maxRecDepth 100000 in
set_option maxHeartbeats 1000000 in
theorem guess_Jr (op v : Int) (h0 : 4 ≤ op) (h1 : op ≤ 4) (hv0 : 0 ≤ v) (hv1 : v < 4294967296) (w : World) :
    Calls Tryd.prog 21 #[.int .i64 op, .int .u32 v] w fun e w' => e = .returned (.agg #[.int .i64 op, .int .i64 (gRd v), .int .i64 (gRs1 v), .int .i64 0, .int .i64 (gI v), .int .i64 0]) ∧ Grown w w' := by
  have p1 : hasRd op = true := by unfold hasRd; exact decide_eq_true (by omega)
  have p2 : hasRs1 op = true := by unfold hasRs1; exact decide_eq_true (by omega)
  have p3 : hasRs2 op = false := by unfold hasRs2; exact decide_eq_false (by omega)
  have p4 : hasCsr op = false := by unfold hasCsr; exact decide_eq_false (by omega)
  have p5 : hasNum op = true := by unfold hasNum; exact decide_eq_true (by omega)
  have f1 : bits .and .u32 (v / 128) 31 = v / 128 % 32 := and31 (by omega) (by omega)
  have f2 : bits .and .u32 (v / 32768) 31 = v / 32768 % 32 := and31 (by omega) (by omega)
  have f3 : bits .and .u32 (v / 1048576) 31 = v / 1048576 % 32 := and31 (by omega) (by omega)
  have f4 : bits .and .u32 (v / 1048576) 63 = v / 1048576 % 64 := and63 (by omega) (by omega)
  have hc : clsI op = 1 := (cls_1 (by omega) (by omega)).symm
  go_enter Tryd.func21, Tryd.ntmps21
  go_wp2_with (first | (go_at_call 23; refine (rclass_any _ _).mono ?_; rintro e w' ⟨rfl, rfl⟩) | (go_at_call 34; refine (rparts_any _ _).mono ?_; rintro e w' ⟨rfl, rfl⟩) | (go_at_call 35; refine (rsx_12 _ ?_ ?_ _).mono ?_; (omega); (omega); rintro e w' ⟨rfl, rfl⟩))
  all_goals
    refine bodyPost_ret ?_ rfl ⟨rfl, ((Grown.refl _).alloc _ _).alloc _ _⟩
    simp [results, Tryd.results21, go_sem, gRd, gRs1, gI]
    try omega
set_option maxRecDepth 100000 in
set_option maxHeartbeats 1000000 in
theorem guess_B (op v : Int) (h0 : 5 ≤ op) (h1 : op ≤ 10) (hv0 : 0 ≤ v) (hv1 : v < 4294967296) (w : World) :
    Calls Tryd.prog 21 #[.int .i64 op, .int .u32 v] w fun e w' => e = .returned (.agg #[.int .i64 op, .int .i64 0, .int .i64 (gRs1 v), .int .i64 (gRs2 v), .int .i64 (gB v), .int .i64 0]) ∧ Grown w w' := by
  have p1 : hasRd op = false := by unfold hasRd; exact decide_eq_false (by omega)
  have p2 : hasRs1 op = true := by unfold hasRs1; exact decide_eq_true (by omega)
  have p3 : hasRs2 op = true := by unfold hasRs2; exact decide_eq_true (by omega)
  have p4 : hasCsr op = false := by unfold hasCsr; exact decide_eq_false (by omega)
  have p5 : hasNum op = true := by unfold hasNum; exact decide_eq_true (by omega)
  have f1 : bits .and .u32 (v / 128) 31 = v / 128 % 32 := and31 (by omega) (by omega)
  have f2 : bits .and .u32 (v / 32768) 31 = v / 32768 % 32 := and31 (by omega) (by omega)
  have f3 : bits .and .u32 (v / 1048576) 31 = v / 1048576 % 32 := and31 (by omega) (by omega)
  have f4 : bits .and .u32 (v / 1048576) 63 = v / 1048576 % 64 := and63 (by omega) (by omega)
  have f5 : bits .and .u32 (v / 128) 1 = v / 128 % 2 := and1 (by omega) (by omega)
  have f6 : bits .and .u32 (v / 33554432) 63 = v / 33554432 % 64 := and63 (by omega) (by omega)
  have f7 : bits .and .u32 (v / 256) 15 = v / 256 % 16 := and15 (by omega) (by omega)
  have o1 : bits .or .u32 (v / 2147483648 * 4096) (v / 128 % 2 * 2048) = v / 2147483648 * 4096 + v / 128 % 2 * 2048 := or32 12 (by omega) (by omega) (by omega) (by omega) (by omega) (by omega)
  have o2 : bits .or .u32 (v / 2147483648 * 4096 + v / 128 % 2 * 2048) (v / 33554432 % 64 * 32) = v / 2147483648 * 4096 + v / 128 % 2 * 2048 + v / 33554432 % 64 * 32 := or32 11 (by omega) (by omega) (by omega) (by omega) (by omega) (by omega)
  have o3 : bits .or .u32 (v / 2147483648 * 4096 + v / 128 % 2 * 2048 + v / 33554432 % 64 * 32) (v / 256 % 16 * 2) = v / 2147483648 * 4096 + v / 128 % 2 * 2048 + v / 33554432 % 64 * 32 + v / 256 % 16 * 2 := or32 5 (by omega) (by omega) (by omega) (by omega) (by omega) (by omega)
  have hc : clsI op = 2 := (cls_2 (by omega) (by omega)).symm
  go_enter Tryd.func21, Tryd.ntmps21
  go_wp2_with (first | (go_at_call 23; refine (rclass_any _ _).mono ?_; rintro e w' ⟨rfl, rfl⟩) | (go_at_call 34; refine (rparts_any _ _).mono ?_; rintro e w' ⟨rfl, rfl⟩) | (go_at_call 35; refine (rsx_13 _ ?_ ?_ _).mono ?_; (omega); (omega); rintro e w' ⟨rfl, rfl⟩))
  all_goals
    refine bodyPost_ret ?_ rfl ⟨rfl, ((Grown.refl _).alloc _ _).alloc _ _⟩
    simp [results, Tryd.results21, go_sem, gRs1, gRs2, gB]
set_option maxRecDepth 100000 in
set_option maxHeartbeats 1000000 in
theorem guess_L (op v : Int) (h0 : 11 ≤ op) (h1 : op ≤ 17) (hv0 : 0 ≤ v) (hv1 : v < 4294967296) (w : World) :
    Calls Tryd.prog 21 #[.int .i64 op, .int .u32 v] w fun e w' => e = .returned (.agg #[.int .i64 op, .int .i64 (gRd v), .int .i64 (gRs1 v), .int .i64 0, .int .i64 (gI v), .int .i64 0]) ∧ Grown w w' := by
  have p1 : hasRd op = true := by unfold hasRd; exact decide_eq_true (by omega)
  have p2 : hasRs1 op = true := by unfold hasRs1; exact decide_eq_true (by omega)
  have p3 : hasRs2 op = false := by unfold hasRs2; exact decide_eq_false (by omega)
  have p4 : hasCsr op = false := by unfold hasCsr; exact decide_eq_false (by omega)
  have p5 : hasNum op = true := by unfold hasNum; exact decide_eq_true (by omega)
  have f1 : bits .and .u32 (v / 128) 31 = v / 128 % 32 := and31 (by omega) (by omega)
  have f2 : bits .and .u32 (v / 32768) 31 = v / 32768 % 32 := and31 (by omega) (by omega)
  have f3 : bits .and .u32 (v / 1048576) 31 = v / 1048576 % 32 := and31 (by omega) (by omega)
  have f4 : bits .and .u32 (v / 1048576) 63 = v / 1048576 % 64 := and63 (by omega) (by omega)
  have hc : clsI op = 3 := (cls_3 (by omega) (by omega)).symm
  go_enter Tryd.func21, Tryd.ntmps21
  go_wp2_with (first | (go_at_call 23; refine (rclass_any _ _).mono ?_; rintro e w' ⟨rfl, rfl⟩) | (go_at_call 34; refine (rparts_any _ _).mono ?_; rintro e w' ⟨rfl, rfl⟩) | (go_at_call 35; refine (rsx_12 _ ?_ ?_ _).mono ?_; (omega); (omega); rintro e w' ⟨rfl, rfl⟩))
  all_goals
    refine bodyPost_ret ?_ rfl ⟨rfl, ((Grown.refl _).alloc _ _).alloc _ _⟩
    simp [results, Tryd.results21, go_sem, gRd, gRs1, gI]
set_option maxRecDepth 100000 in
set_option maxHeartbeats 1000000 in
theorem guess_S (op v : Int) (h0 : 18 ≤ op) (h1 : op ≤ 21) (hv0 : 0 ≤ v) (hv1 : v < 4294967296) (w : World) :
    Calls Tryd.prog 21 #[.int .i64 op, .int .u32 v] w fun e w' => e = .returned (.agg #[.int .i64 op, .int .i64 0, .int .i64 (gRs1 v), .int .i64 (gRs2 v), .int .i64 (gS v), .int .i64 0]) ∧ Grown w w' := by
  have p1 : hasRd op = false := by unfold hasRd; exact decide_eq_false (by omega)
  have p2 : hasRs1 op = true := by unfold hasRs1; exact decide_eq_true (by omega)
  have p3 : hasRs2 op = true := by unfold hasRs2; exact decide_eq_true (by omega)
  have p4 : hasCsr op = false := by unfold hasCsr; exact decide_eq_false (by omega)
  have p5 : hasNum op = true := by unfold hasNum; exact decide_eq_true (by omega)
  have f1 : bits .and .u32 (v / 128) 31 = v / 128 % 32 := and31 (by omega) (by omega)
  have f2 : bits .and .u32 (v / 32768) 31 = v / 32768 % 32 := and31 (by omega) (by omega)
  have f3 : bits .and .u32 (v / 1048576) 31 = v / 1048576 % 32 := and31 (by omega) (by omega)
  have f4 : bits .and .u32 (v / 1048576) 63 = v / 1048576 % 64 := and63 (by omega) (by omega)
  have o1 : bits .or .u32 (v / 33554432 * 32) (v / 128 % 32) = v / 33554432 * 32 + v / 128 % 32 := or32 5 (by omega) (by omega) (by omega) (by omega) (by omega) (by omega)
  have hc : clsI op = 4 := (cls_4 (by omega) (by omega)).symm
  go_enter Tryd.func21, Tryd.ntmps21
  go_wp2_with (first | (go_at_call 23; refine (rclass_any _ _).mono ?_; rintro e w' ⟨rfl, rfl⟩) | (go_at_call 34; refine (rparts_any _ _).mono ?_; rintro e w' ⟨rfl, rfl⟩) | (go_at_call 35; refine (rsx_12 _ ?_ ?_ _).mono ?_; (omega); (omega); rintro e w' ⟨rfl, rfl⟩))
  all_goals
    refine bodyPost_ret ?_ rfl ⟨rfl, ((Grown.refl _).alloc _ _).alloc _ _⟩
    simp [results, Tryd.results21, go_sem, gRs1, gRs2, gS]
set_option maxRecDepth 100000 in
set_option maxHeartbeats 1000000 in
theorem guess_I (op v : Int) (h0 : 22 ≤ op) (h1 : op ≤ 27) (hv0 : 0 ≤ v) (hv1 : v < 4294967296) (w : World) :
    Calls Tryd.prog 21 #[.int .i64 op, .int .u32 v] w fun e w' => e = .returned (.agg #[.int .i64 op, .int .i64 (gRd v), .int .i64 (gRs1 v), .int .i64 0, .int .i64 (gI v), .int .i64 0]) ∧ Grown w w' := by
  have p1 : hasRd op = true := by unfold hasRd; exact decide_eq_true (by omega)
  have p2 : hasRs1 op = true := by unfold hasRs1; exact decide_eq_true (by omega)
  have p3 : hasRs2 op = false := by unfold hasRs2; exact decide_eq_false (by omega)
  have p4 : hasCsr op = false := by unfold hasCsr; exact decide_eq_false (by omega)
  have p5 : hasNum op = true := by unfold hasNum; exact decide_eq_true (by omega)
  have f1 : bits .and .u32 (v / 128) 31 = v / 128 % 32 := and31 (by omega) (by omega)
  have f2 : bits .and .u32 (v / 32768) 31 = v / 32768 % 32 := and31 (by omega) (by omega)
  have f3 : bits .and .u32 (v / 1048576) 31 = v / 1048576 % 32 := and31 (by omega) (by omega)
  have f4 : bits .and .u32 (v / 1048576) 63 = v / 1048576 % 64 := and63 (by omega) (by omega)
  have hc : clsI op = 5 := (cls_5 (by omega) (by omega)).symm
  go_enter Tryd.func21, Tryd.ntmps21
  go_wp2_with (first | (go_at_call 23; refine (rclass_any _ _).mono ?_; rintro e w' ⟨rfl, rfl⟩) | (go_at_call 34; refine (rparts_any _ _).mono ?_; rintro e w' ⟨rfl, rfl⟩) | (go_at_call 35; refine (rsx_12 _ ?_ ?_ _).mono ?_; (omega); (omega); rintro e w' ⟨rfl, rfl⟩))
  all_goals
    refine bodyPost_ret ?_ rfl ⟨rfl, ((Grown.refl _).alloc _ _).alloc _ _⟩
    simp [results, Tryd.results21, go_sem, gRd, gRs1, gI]
end Go.Proofs.YtbcmklojfmenjaaDoor
