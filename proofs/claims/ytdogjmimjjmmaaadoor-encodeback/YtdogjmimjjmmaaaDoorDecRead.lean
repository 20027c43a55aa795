/-
  What package decode's read answers: walked whole, for every operation and what is left of its word.
-/
import Derived.Test.YtdogjmimjjmmaaaDoorDecFormat
import Derived.Test.YtdogjmimjjmmaaaDoorRefDec
namespace Go.Proofs.YtdogjmimjjmmaaaDoor
open Go.RowKit
set_option maxRecDepth 100000 in
set_option maxHeartbeats 2000000 in
theorem read_U (op r : Int) (hf : fmtI op = 85) (hv0 : 0 ≤ r) (hv1 : r < 4294967296) (w : World) (hT : TabI w) :
    Calls Tryd.prog 33 #[.int .i64 op, .int .u64 r] w fun e w' => e = .returned (.agg #[.int .i64 op, .int .i64 (gRd r), .int .i64 0, .int .i64 0, .int .i64 (gU r), .int .i64 0]) ∧ Grown w w' := by
  have e1 : wrap64 (bitsI r 7 5) = gRd r := pI_7_5 hv0 hv1
  have e2 : wrap64 (bitsI r 15 5) = gRs1 r := pI_15_5 hv0 hv1
  have e3 : wrap64 (bitsI r 20 5) = gRs2 r := pI_20_5 hv0 hv1
  have e4 : wrap64 (bitsI r 20 12) = gCsr r := pI_20_12 hv0 hv1
  have hT1 := hT.grown ((Grown.refl w).alloc #[.int .i64 0, .int .i64 0, .int .i64 0, .int .i64 0, .int .i64 0, .int .i64 0] 23)
  go_enter Tryd.func33, Tryd.ntmps33
  go_wp2_with (first | (go_at_call 53; refine (dpart_any _ _ _ _).mono ?_; rintro e w' ⟨rfl, rfl⟩) | (go_at_call 39; refine (format_any _ _ hT1).mono ?_; rintro e w' ⟨rfl, hg⟩) | (go_at_call 54; refine (upper_any _ hv0 hv1 _).mono ?_; rintro e w' ⟨rfl, rfl⟩) | refine wpList_store_row rfl 23 _ _ rfl w.heap.size #[.int .i64 op, .int .i64 (gRd r), .int .i64 0, .int .i64 0, .int .i64 (gU r), .int .i64 0] rfl rfl 23 _ (Grown.block hg (heap_alloc_last w _)) (size25 _ _ _ _ _ _) rfl (ones6 _ _ _ _ _ _) ?_)
  have hB := Grown.block hg (heap_alloc_last w _)
  refine bodyPost_ret ?_ rfl ⟨rfl, Grown.setRow (Grown.trans' ((Grown.refl _).alloc _ _) hg) (Nat.le_refl _) hB⟩
  exact results_cell_row rfl _ _ w.heap.size 23 _ (0, 0) _ rfl (setRow_heap _ _ _ _ _ _ hB) Tryd.underlying23 rfl (size25 _ _ _ _ _ _)
set_option maxRecDepth 100000 in
set_option maxHeartbeats 2000000 in
theorem read_J (op r : Int) (hf : fmtI op = 74) (hv0 : 0 ≤ r) (hv1 : r < 4294967296) (w : World) (hT : TabI w) :
    Calls Tryd.prog 33 #[.int .i64 op, .int .u64 r] w fun e w' => e = .returned (.agg #[.int .i64 op, .int .i64 (gRd r), .int .i64 0, .int .i64 0, .int .i64 (gJ r), .int .i64 0]) ∧ Grown w w' := by
  have e1 : wrap64 (bitsI r 7 5) = gRd r := pI_7_5 hv0 hv1
  have e2 : wrap64 (bitsI r 15 5) = gRs1 r := pI_15_5 hv0 hv1
  have e3 : wrap64 (bitsI r 20 5) = gRs2 r := pI_20_5 hv0 hv1
  have e4 : wrap64 (bitsI r 20 12) = gCsr r := pI_20_12 hv0 hv1
  have hT1 := hT.grown ((Grown.refl w).alloc #[.int .i64 0, .int .i64 0, .int .i64 0, .int .i64 0, .int .i64 0, .int .i64 0] 23)
  go_enter Tryd.func33, Tryd.ntmps33
  go_wp2_with (first | (go_at_call 53; refine (dpart_any _ _ _ _).mono ?_; rintro e w' ⟨rfl, rfl⟩) | (go_at_call 39; refine (format_any _ _ hT1).mono ?_; rintro e w' ⟨rfl, hg⟩) | (go_at_call 55; refine (jump_any _ hv0 hv1 _).mono ?_; rintro e w' ⟨rfl, rfl⟩) | refine wpList_store_row rfl 23 _ _ rfl w.heap.size #[.int .i64 op, .int .i64 (gRd r), .int .i64 0, .int .i64 0, .int .i64 (gJ r), .int .i64 0] rfl rfl 23 _ (Grown.block hg (heap_alloc_last w _)) (size25 _ _ _ _ _ _) rfl (ones6 _ _ _ _ _ _) ?_)
  have hB := Grown.block hg (heap_alloc_last w _)
  refine bodyPost_ret ?_ rfl ⟨rfl, Grown.setRow (Grown.trans' ((Grown.refl _).alloc _ _) hg) (Nat.le_refl _) hB⟩
  exact results_cell_row rfl _ _ w.heap.size 23 _ (0, 0) _ rfl (setRow_heap _ _ _ _ _ _ hB) Tryd.underlying23 rfl (size25 _ _ _ _ _ _)
set_option maxRecDepth 100000 in
set_option maxHeartbeats 2000000 in
theorem read_B (op r : Int) (hf : fmtI op = 66) (hv0 : 0 ≤ r) (hv1 : r < 4294967296) (w : World) (hT : TabI w) :
    Calls Tryd.prog 33 #[.int .i64 op, .int .u64 r] w fun e w' => e = .returned (.agg #[.int .i64 op, .int .i64 0, .int .i64 (gRs1 r), .int .i64 (gRs2 r), .int .i64 (gB r), .int .i64 0]) ∧ Grown w w' := by
  have e1 : wrap64 (bitsI r 7 5) = gRd r := pI_7_5 hv0 hv1
  have e2 : wrap64 (bitsI r 15 5) = gRs1 r := pI_15_5 hv0 hv1
  have e3 : wrap64 (bitsI r 20 5) = gRs2 r := pI_20_5 hv0 hv1
  have e4 : wrap64 (bitsI r 20 12) = gCsr r := pI_20_12 hv0 hv1
  have hT1 := hT.grown ((Grown.refl w).alloc #[.int .i64 0, .int .i64 0, .int .i64 0, .int .i64 0, .int .i64 0, .int .i64 0] 23)
  go_enter Tryd.func33, Tryd.ntmps33
  go_wp2_with (first | (go_at_call 53; refine (dpart_any _ _ _ _).mono ?_; rintro e w' ⟨rfl, rfl⟩) | (go_at_call 39; refine (format_any _ _ hT1).mono ?_; rintro e w' ⟨rfl, hg⟩) | (go_at_call 56; refine (branch_any _ hv0 hv1 _).mono ?_; rintro e w' ⟨rfl, rfl⟩) | refine wpList_store_row rfl 23 _ _ rfl w.heap.size #[.int .i64 op, .int .i64 0, .int .i64 (gRs1 r), .int .i64 (gRs2 r), .int .i64 (gB r), .int .i64 0] rfl rfl 23 _ (Grown.block hg (heap_alloc_last w _)) (size25 _ _ _ _ _ _) rfl (ones6 _ _ _ _ _ _) ?_)
  have hB := Grown.block hg (heap_alloc_last w _)
  refine bodyPost_ret ?_ rfl ⟨rfl, Grown.setRow (Grown.trans' ((Grown.refl _).alloc _ _) hg) (Nat.le_refl _) hB⟩
  exact results_cell_row rfl _ _ w.heap.size 23 _ (0, 0) _ rfl (setRow_heap _ _ _ _ _ _ hB) Tryd.underlying23 rfl (size25 _ _ _ _ _ _)
set_option maxRecDepth 100000 in
set_option maxHeartbeats 2000000 in
theorem read_S (op r : Int) (hf : fmtI op = 83) (hv0 : 0 ≤ r) (hv1 : r < 4294967296) (w : World) (hT : TabI w) :
    Calls Tryd.prog 33 #[.int .i64 op, .int .u64 r] w fun e w' => e = .returned (.agg #[.int .i64 op, .int .i64 0, .int .i64 (gRs1 r), .int .i64 (gRs2 r), .int .i64 (gS r), .int .i64 0]) ∧ Grown w w' := by
  have e1 : wrap64 (bitsI r 7 5) = gRd r := pI_7_5 hv0 hv1
  have e2 : wrap64 (bitsI r 15 5) = gRs1 r := pI_15_5 hv0 hv1
  have e3 : wrap64 (bitsI r 20 5) = gRs2 r := pI_20_5 hv0 hv1
  have e4 : wrap64 (bitsI r 20 12) = gCsr r := pI_20_12 hv0 hv1
  have hT1 := hT.grown ((Grown.refl w).alloc #[.int .i64 0, .int .i64 0, .int .i64 0, .int .i64 0, .int .i64 0, .int .i64 0] 23)
  go_enter Tryd.func33, Tryd.ntmps33
  go_wp2_with (first | (go_at_call 53; refine (dpart_any _ _ _ _).mono ?_; rintro e w' ⟨rfl, rfl⟩) | (go_at_call 39; refine (format_any _ _ hT1).mono ?_; rintro e w' ⟨rfl, hg⟩) | (go_at_call 57; refine (store_any _ hv0 hv1 _).mono ?_; rintro e w' ⟨rfl, rfl⟩) | refine wpList_store_row rfl 23 _ _ rfl w.heap.size #[.int .i64 op, .int .i64 0, .int .i64 (gRs1 r), .int .i64 (gRs2 r), .int .i64 (gS r), .int .i64 0] rfl rfl 23 _ (Grown.block hg (heap_alloc_last w _)) (size25 _ _ _ _ _ _) rfl (ones6 _ _ _ _ _ _) ?_)
  have hB := Grown.block hg (heap_alloc_last w _)
  refine bodyPost_ret ?_ rfl ⟨rfl, Grown.setRow (Grown.trans' ((Grown.refl _).alloc _ _) hg) (Nat.le_refl _) hB⟩
  exact results_cell_row rfl _ _ w.heap.size 23 _ (0, 0) _ rfl (setRow_heap _ _ _ _ _ _ hB) Tryd.underlying23 rfl (size25 _ _ _ _ _ _)
set_option maxRecDepth 100000 in
set_option maxHeartbeats 2000000 in
theorem read_R (op r : Int) (hf : fmtI op = 82) (hv0 : 0 ≤ r) (hv1 : r < 4294967296) (w : World) (hT : TabI w) :
    Calls Tryd.prog 33 #[.int .i64 op, .int .u64 r] w fun e w' => e = .returned (.agg #[.int .i64 op, .int .i64 (gRd r), .int .i64 (gRs1 r), .int .i64 (gRs2 r), .int .i64 0, .int .i64 0]) ∧ Grown w w' := by
  have e1 : wrap64 (bitsI r 7 5) = gRd r := pI_7_5 hv0 hv1
  have e2 : wrap64 (bitsI r 15 5) = gRs1 r := pI_15_5 hv0 hv1
  have e3 : wrap64 (bitsI r 20 5) = gRs2 r := pI_20_5 hv0 hv1
  have e4 : wrap64 (bitsI r 20 12) = gCsr r := pI_20_12 hv0 hv1
  have hT1 := hT.grown ((Grown.refl w).alloc #[.int .i64 0, .int .i64 0, .int .i64 0, .int .i64 0, .int .i64 0, .int .i64 0] 23)
  go_enter Tryd.func33, Tryd.ntmps33
  go_wp2_with (first | (go_at_call 53; refine (dpart_any _ _ _ _).mono ?_; rintro e w' ⟨rfl, rfl⟩) | (go_at_call 39; refine (format_any _ _ hT1).mono ?_; rintro e w' ⟨rfl, hg⟩) | refine wpList_store_row rfl 23 _ _ rfl w.heap.size #[.int .i64 op, .int .i64 (gRd r), .int .i64 (gRs1 r), .int .i64 (gRs2 r), .int .i64 0, .int .i64 0] rfl rfl 23 _ (Grown.block hg (heap_alloc_last w _)) (size25 _ _ _ _ _ _) rfl (ones6 _ _ _ _ _ _) ?_)
  have hB := Grown.block hg (heap_alloc_last w _)
  refine bodyPost_ret ?_ rfl ⟨rfl, Grown.setRow (Grown.trans' ((Grown.refl _).alloc _ _) hg) (Nat.le_refl _) hB⟩
  exact results_cell_row rfl _ _ w.heap.size 23 _ (0, 0) _ rfl (setRow_heap _ _ _ _ _ _ hB) Tryd.underlying23 rfl (size25 _ _ _ _ _ _)
set_option maxRecDepth 100000 in
set_option maxHeartbeats 2000000 in
theorem read_C (op r : Int) (hf : fmtI op = 73) (ho : op = 54 ∨ op = 55 ∨ op = 56) (hv0 : 0 ≤ r) (hv1 : r < 4294967296) (w : World) (hT : TabI w) :
    Calls Tryd.prog 33 #[.int .i64 op, .int .u64 r] w fun e w' => e = .returned (.agg #[.int .i64 op, .int .i64 (gRd r), .int .i64 (gRs1 r), .int .i64 0, .int .i64 0, .int .i64 (gCsr r)]) ∧ Grown w w' := by
  have e1 : wrap64 (bitsI r 7 5) = gRd r := pI_7_5 hv0 hv1
  have e2 : wrap64 (bitsI r 15 5) = gRs1 r := pI_15_5 hv0 hv1
  have e3 : wrap64 (bitsI r 20 5) = gRs2 r := pI_20_5 hv0 hv1
  have e4 : wrap64 (bitsI r 20 12) = gCsr r := pI_20_12 hv0 hv1
  have hT1 := hT.grown ((Grown.refl w).alloc #[.int .i64 0, .int .i64 0, .int .i64 0, .int .i64 0, .int .i64 0, .int .i64 0] 23)
  rcases ho with ho | ho | ho
  all_goals
    have q54 : (op == 54) = decide (op = 54) := rfl
    have q55 : (op == 55) = decide (op = 55) := rfl
    have q56 : (op == 56) = decide (op = 56) := rfl
    have q57 : (op == 57) = decide (op = 57) := rfl
    have q58 : (op == 58) = decide (op = 58) := rfl
    have q59 : (op == 59) = decide (op = 59) := rfl
    try rw [decide_eq_true (by omega)] at q54
    try rw [decide_eq_false (by omega)] at q54
    try rw [decide_eq_true (by omega)] at q55
    try rw [decide_eq_false (by omega)] at q55
    try rw [decide_eq_true (by omega)] at q56
    try rw [decide_eq_false (by omega)] at q56
    try rw [decide_eq_true (by omega)] at q57
    try rw [decide_eq_false (by omega)] at q57
    try rw [decide_eq_true (by omega)] at q58
    try rw [decide_eq_false (by omega)] at q58
    try rw [decide_eq_true (by omega)] at q59
    try rw [decide_eq_false (by omega)] at q59
    clear ho
    go_enter Tryd.func33, Tryd.ntmps33
    go_wp2_with (first | (go_at_call 53; refine (dpart_any _ _ _ _).mono ?_; rintro e w' ⟨rfl, rfl⟩) | (go_at_call 39; refine (format_any _ _ hT1).mono ?_; rintro e w' ⟨rfl, hg⟩) | refine wpList_store_row rfl 23 _ _ rfl w.heap.size #[.int .i64 op, .int .i64 (gRd r), .int .i64 (gRs1 r), .int .i64 0, .int .i64 0, .int .i64 (gCsr r)] rfl rfl 23 _ (Grown.block hg (heap_alloc_last w _)) (size25 _ _ _ _ _ _) rfl (ones6 _ _ _ _ _ _) ?_)
    have hB := Grown.block hg (heap_alloc_last w _)
    refine bodyPost_ret ?_ rfl ⟨rfl, Grown.setRow (Grown.trans' ((Grown.refl _).alloc _ _) hg) (Nat.le_refl _) hB⟩
    exact results_cell_row rfl _ _ w.heap.size 23 _ (0, 0) _ rfl (setRow_heap _ _ _ _ _ _ hB) Tryd.underlying23 rfl (size25 _ _ _ _ _ _)
set_option maxRecDepth 100000 in
set_option maxHeartbeats 2000000 in
theorem read_Ci (op r : Int) (hf : fmtI op = 73) (ho : op = 57 ∨ op = 58 ∨ op = 59) (hv0 : 0 ≤ r) (hv1 : r < 4294967296) (w : World) (hT : TabI w) :
    Calls Tryd.prog 33 #[.int .i64 op, .int .u64 r] w fun e w' => e = .returned (.agg #[.int .i64 op, .int .i64 (gRd r), .int .i64 0, .int .i64 0, .int .i64 (gRs1 r), .int .i64 (gCsr r)]) ∧ Grown w w' := by
  have e1 : wrap64 (bitsI r 7 5) = gRd r := pI_7_5 hv0 hv1
  have e2 : wrap64 (bitsI r 15 5) = gRs1 r := pI_15_5 hv0 hv1
  have e3 : wrap64 (bitsI r 20 5) = gRs2 r := pI_20_5 hv0 hv1
  have e4 : wrap64 (bitsI r 20 12) = gCsr r := pI_20_12 hv0 hv1
  have hT1 := hT.grown ((Grown.refl w).alloc #[.int .i64 0, .int .i64 0, .int .i64 0, .int .i64 0, .int .i64 0, .int .i64 0] 23)
  rcases ho with ho | ho | ho
  all_goals
    have q54 : (op == 54) = decide (op = 54) := rfl
    have q55 : (op == 55) = decide (op = 55) := rfl
    have q56 : (op == 56) = decide (op = 56) := rfl
    have q57 : (op == 57) = decide (op = 57) := rfl
    have q58 : (op == 58) = decide (op = 58) := rfl
    have q59 : (op == 59) = decide (op = 59) := rfl
    try rw [decide_eq_true (by omega)] at q54
    try rw [decide_eq_false (by omega)] at q54
    try rw [decide_eq_true (by omega)] at q55
    try rw [decide_eq_false (by omega)] at q55
    try rw [decide_eq_true (by omega)] at q56
    try rw [decide_eq_false (by omega)] at q56
    try rw [decide_eq_true (by omega)] at q57
    try rw [decide_eq_false (by omega)] at q57
    try rw [decide_eq_true (by omega)] at q58
    try rw [decide_eq_false (by omega)] at q58
    try rw [decide_eq_true (by omega)] at q59
    try rw [decide_eq_false (by omega)] at q59
    clear ho
    go_enter Tryd.func33, Tryd.ntmps33
    go_wp2_with (first | (go_at_call 53; refine (dpart_any _ _ _ _).mono ?_; rintro e w' ⟨rfl, rfl⟩) | (go_at_call 39; refine (format_any _ _ hT1).mono ?_; rintro e w' ⟨rfl, hg⟩) | refine wpList_store_row rfl 23 _ _ rfl w.heap.size #[.int .i64 op, .int .i64 (gRd r), .int .i64 0, .int .i64 0, .int .i64 (gRs1 r), .int .i64 (gCsr r)] rfl rfl 23 _ (Grown.block hg (heap_alloc_last w _)) (size25 _ _ _ _ _ _) rfl (ones6 _ _ _ _ _ _) ?_)
    have hB := Grown.block hg (heap_alloc_last w _)
    refine bodyPost_ret ?_ rfl ⟨rfl, Grown.setRow (Grown.trans' ((Grown.refl _).alloc _ _) hg) (Nat.le_refl _) hB⟩
    exact results_cell_row rfl _ _ w.heap.size 23 _ (0, 0) _ rfl (setRow_heap _ _ _ _ _ _ hB) Tryd.underlying23 rfl (size25 _ _ _ _ _ _)
set_option maxRecDepth 100000 in
set_option maxHeartbeats 2000000 in
theorem read_I (op r : Int) (hf : fmtI op = 73) (ho : ¬ (54 ≤ op ∧ op ≤ 59)) (hv0 : 0 ≤ r) (hv1 : r < 4294967296) (w : World) (hT : TabI w) :
    Calls Tryd.prog 33 #[.int .i64 op, .int .u64 r] w fun e w' => e = .returned (.agg #[.int .i64 op, .int .i64 (gRd r), .int .i64 (gRs1 r), .int .i64 0, .int .i64 (gI r), .int .i64 0]) ∧ Grown w w' := by
  have e1 : wrap64 (bitsI r 7 5) = gRd r := pI_7_5 hv0 hv1
  have e2 : wrap64 (bitsI r 15 5) = gRs1 r := pI_15_5 hv0 hv1
  have e3 : wrap64 (bitsI r 20 5) = gRs2 r := pI_20_5 hv0 hv1
  have e4 : wrap64 (bitsI r 20 12) = gCsr r := pI_20_12 hv0 hv1
  have hT1 := hT.grown ((Grown.refl w).alloc #[.int .i64 0, .int .i64 0, .int .i64 0, .int .i64 0, .int .i64 0, .int .i64 0] 23)
  have ho54 : ¬ op = 54 := by omega
  have ho55 : ¬ op = 55 := by omega
  have ho56 : ¬ op = 56 := by omega
  have ho57 : ¬ op = 57 := by omega
  have ho58 : ¬ op = 58 := by omega
  have ho59 : ¬ op = 59 := by omega
  go_enter Tryd.func33, Tryd.ntmps33
  go_wp2_with (first | (go_at_call 53; refine (dpart_any _ _ _ _).mono ?_; rintro e w' ⟨rfl, rfl⟩) | (go_at_call 39; refine (format_any _ _ hT1).mono ?_; rintro e w' ⟨rfl, hg⟩) | (go_at_call 58; refine (near_any _ hv0 hv1 _).mono ?_; rintro e w' ⟨rfl, rfl⟩) | refine wpList_store_row rfl 23 _ _ rfl w.heap.size #[.int .i64 op, .int .i64 (gRd r), .int .i64 (gRs1 r), .int .i64 0, .int .i64 (gI r), .int .i64 0] rfl rfl 23 _ (Grown.block hg (heap_alloc_last w _)) (size25 _ _ _ _ _ _) rfl (ones6 _ _ _ _ _ _) ?_)
  have hB := Grown.block hg (heap_alloc_last w _)
  refine bodyPost_ret ?_ rfl ⟨rfl, Grown.setRow (Grown.trans' ((Grown.refl _).alloc _ _) hg) (Nat.le_refl _) hB⟩
  exact results_cell_row rfl _ _ w.heap.size 23 _ (0, 0) _ rfl (setRow_heap _ _ _ _ _ _ hB) Tryd.underlying23 rfl (size25 _ _ _ _ _ _)
end Go.Proofs.YtdogjmimjjmmaaaDoor
