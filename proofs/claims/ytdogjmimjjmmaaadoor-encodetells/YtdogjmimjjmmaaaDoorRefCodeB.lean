/-
  The codes of the operations, as the document's words have them (the reference of layers 3 and 4): walked, operation by operation.
-/
import Derived.Test.YtdogjmimjjmmaaaDoorRefIs
import Derived.OwnWalk
import Derived.Deep.WholeRow
namespace Go.Proofs.YtdogjmimjjmmaaaDoor
open Go.RowKit
set_option maxRecDepth 100000 in
set_option maxHeartbeats 1000000 in
theorem code_1 (w : World) :
    Calls Tryd.prog 23 #[.int .i64 1] w fun e w' => e = .returned (.tuple #[.int .u32 55, .int .u32 0, .int .u32 0]) ∧ Grown w w' := by
  have hc : clsI 1 = 1 := by decide +kernel
  go_enter Tryd.func23, Tryd.ntmps23
  go_wp2_with (go_at_call 24; refine (rclass_any _ _).mono ?_; rintro e w' ⟨rfl, rfl⟩)
  all_goals (try (go_region; go_wp2))
  refine bodyPost_ret (results_tmp3 (t := 2) (u := 3) (v := 4) rfl _ _ _) rfl ⟨rfl, ?_⟩
  repeat (first | exact Grown.refl _ | apply Grown.drew | apply Grown.alloc)
set_option maxRecDepth 100000 in
set_option maxHeartbeats 1000000 in
theorem code_2 (w : World) :
    Calls Tryd.prog 23 #[.int .i64 2] w fun e w' => e = .returned (.tuple #[.int .u32 23, .int .u32 0, .int .u32 0]) ∧ Grown w w' := by
  have hc : clsI 2 = 1 := by decide +kernel
  go_enter Tryd.func23, Tryd.ntmps23
  go_wp2_with (go_at_call 24; refine (rclass_any _ _).mono ?_; rintro e w' ⟨rfl, rfl⟩)
  all_goals (try (go_region; go_wp2))
  refine bodyPost_ret (results_tmp3 (t := 2) (u := 3) (v := 4) rfl _ _ _) rfl ⟨rfl, ?_⟩
  repeat (first | exact Grown.refl _ | apply Grown.drew | apply Grown.alloc)
set_option maxRecDepth 100000 in
set_option maxHeartbeats 1000000 in
theorem code_3 (w : World) :
    Calls Tryd.prog 23 #[.int .i64 3] w fun e w' => e = .returned (.tuple #[.int .u32 111, .int .u32 0, .int .u32 0]) ∧ Grown w w' := by
  have hc : clsI 3 = 1 := by decide +kernel
  go_enter Tryd.func23, Tryd.ntmps23
  go_wp2_with (go_at_call 24; refine (rclass_any _ _).mono ?_; rintro e w' ⟨rfl, rfl⟩)
  all_goals (try (go_region; go_wp2))
  refine bodyPost_ret (results_tmp3 (t := 2) (u := 3) (v := 4) rfl _ _ _) rfl ⟨rfl, ?_⟩
  repeat (first | exact Grown.refl _ | apply Grown.drew | apply Grown.alloc)
set_option maxRecDepth 100000 in
set_option maxHeartbeats 1000000 in
theorem code_4 (w : World) :
    Calls Tryd.prog 23 #[.int .i64 4] w fun e w' => e = .returned (.tuple #[.int .u32 103, .int .u32 0, .int .u32 0]) ∧ Grown w w' := by
  have hc : clsI 4 = 1 := by decide +kernel
  go_enter Tryd.func23, Tryd.ntmps23
  go_wp2_with (go_at_call 24; refine (rclass_any _ _).mono ?_; rintro e w' ⟨rfl, rfl⟩)
  all_goals (try (go_region; go_wp2))
  refine bodyPost_ret (results_tmp3 (t := 2) (u := 3) (v := 4) rfl _ _ _) rfl ⟨rfl, ?_⟩
  repeat (first | exact Grown.refl _ | apply Grown.drew | apply Grown.alloc)
set_option maxRecDepth 100000 in
set_option maxHeartbeats 1000000 in
theorem code_5 (w : World) :
    Calls Tryd.prog 23 #[.int .i64 5] w fun e w' => e = .returned (.tuple #[.int .u32 99, .int .u32 0, .int .u32 0]) ∧ Grown w w' := by
  have hc : clsI 5 = 2 := by decide +kernel
  go_enter Tryd.func23, Tryd.ntmps23
  go_wp2_with (go_at_call 24; refine (rclass_any _ _).mono ?_; rintro e w' ⟨rfl, rfl⟩)
  all_goals (try (go_region; go_wp2))
  refine bodyPost_ret (results_tmp3 (t := 2) (u := 3) (v := 4) rfl _ _ _) rfl ⟨rfl, ?_⟩
  repeat (first | exact Grown.refl _ | apply Grown.drew | apply Grown.alloc)
set_option maxRecDepth 100000 in
set_option maxHeartbeats 1000000 in
theorem code_6 (w : World) :
    Calls Tryd.prog 23 #[.int .i64 6] w fun e w' => e = .returned (.tuple #[.int .u32 99, .int .u32 1, .int .u32 0]) ∧ Grown w w' := by
  have hc : clsI 6 = 2 := by decide +kernel
  go_enter Tryd.func23, Tryd.ntmps23
  go_wp2_with (go_at_call 24; refine (rclass_any _ _).mono ?_; rintro e w' ⟨rfl, rfl⟩)
  all_goals (try (go_region; go_wp2))
  refine bodyPost_ret (results_tmp3 (t := 2) (u := 3) (v := 4) rfl _ _ _) rfl ⟨rfl, ?_⟩
  repeat (first | exact Grown.refl _ | apply Grown.drew | apply Grown.alloc)
set_option maxRecDepth 100000 in
set_option maxHeartbeats 1000000 in
theorem code_7 (w : World) :
    Calls Tryd.prog 23 #[.int .i64 7] w fun e w' => e = .returned (.tuple #[.int .u32 99, .int .u32 4, .int .u32 0]) ∧ Grown w w' := by
  have hc : clsI 7 = 2 := by decide +kernel
  go_enter Tryd.func23, Tryd.ntmps23
  go_wp2_with (go_at_call 24; refine (rclass_any _ _).mono ?_; rintro e w' ⟨rfl, rfl⟩)
  all_goals (try (go_region; go_wp2))
  refine bodyPost_ret (results_tmp3 (t := 2) (u := 3) (v := 4) rfl _ _ _) rfl ⟨rfl, ?_⟩
  repeat (first | exact Grown.refl _ | apply Grown.drew | apply Grown.alloc)
set_option maxRecDepth 100000 in
set_option maxHeartbeats 1000000 in
theorem code_8 (w : World) :
    Calls Tryd.prog 23 #[.int .i64 8] w fun e w' => e = .returned (.tuple #[.int .u32 99, .int .u32 5, .int .u32 0]) ∧ Grown w w' := by
  have hc : clsI 8 = 2 := by decide +kernel
  go_enter Tryd.func23, Tryd.ntmps23
  go_wp2_with (go_at_call 24; refine (rclass_any _ _).mono ?_; rintro e w' ⟨rfl, rfl⟩)
  all_goals (try (go_region; go_wp2))
  refine bodyPost_ret (results_tmp3 (t := 2) (u := 3) (v := 4) rfl _ _ _) rfl ⟨rfl, ?_⟩
  repeat (first | exact Grown.refl _ | apply Grown.drew | apply Grown.alloc)
set_option maxRecDepth 100000 in
set_option maxHeartbeats 1000000 in
theorem code_9 (w : World) :
    Calls Tryd.prog 23 #[.int .i64 9] w fun e w' => e = .returned (.tuple #[.int .u32 99, .int .u32 6, .int .u32 0]) ∧ Grown w w' := by
  have hc : clsI 9 = 2 := by decide +kernel
  go_enter Tryd.func23, Tryd.ntmps23
  go_wp2_with (go_at_call 24; refine (rclass_any _ _).mono ?_; rintro e w' ⟨rfl, rfl⟩)
  all_goals (try (go_region; go_wp2))
  refine bodyPost_ret (results_tmp3 (t := 2) (u := 3) (v := 4) rfl _ _ _) rfl ⟨rfl, ?_⟩
  repeat (first | exact Grown.refl _ | apply Grown.drew | apply Grown.alloc)
set_option maxRecDepth 100000 in
set_option maxHeartbeats 1000000 in
theorem code_10 (w : World) :
    Calls Tryd.prog 23 #[.int .i64 10] w fun e w' => e = .returned (.tuple #[.int .u32 99, .int .u32 7, .int .u32 0]) ∧ Grown w w' := by
  have hc : clsI 10 = 2 := by decide +kernel
  go_enter Tryd.func23, Tryd.ntmps23
  go_wp2_with (go_at_call 24; refine (rclass_any _ _).mono ?_; rintro e w' ⟨rfl, rfl⟩)
  all_goals (try (go_region; go_wp2))
  refine bodyPost_ret (results_tmp3 (t := 2) (u := 3) (v := 4) rfl _ _ _) rfl ⟨rfl, ?_⟩
  repeat (first | exact Grown.refl _ | apply Grown.drew | apply Grown.alloc)
set_option maxRecDepth 100000 in
set_option maxHeartbeats 1000000 in
theorem code_11 (w : World) :
    Calls Tryd.prog 23 #[.int .i64 11] w fun e w' => e = .returned (.tuple #[.int .u32 3, .int .u32 0, .int .u32 0]) ∧ Grown w w' := by
  have hc : clsI 11 = 3 := by decide +kernel
  go_enter Tryd.func23, Tryd.ntmps23
  go_wp2_with (go_at_call 24; refine (rclass_any _ _).mono ?_; rintro e w' ⟨rfl, rfl⟩)
  all_goals (try (go_region; go_wp2))
  refine bodyPost_ret (results_tmp3 (t := 2) (u := 3) (v := 4) rfl _ _ _) rfl ⟨rfl, ?_⟩
  repeat (first | exact Grown.refl _ | apply Grown.drew | apply Grown.alloc)
set_option maxRecDepth 100000 in
set_option maxHeartbeats 1000000 in
theorem code_12 (w : World) :
    Calls Tryd.prog 23 #[.int .i64 12] w fun e w' => e = .returned (.tuple #[.int .u32 3, .int .u32 1, .int .u32 0]) ∧ Grown w w' := by
  have hc : clsI 12 = 3 := by decide +kernel
  go_enter Tryd.func23, Tryd.ntmps23
  go_wp2_with (go_at_call 24; refine (rclass_any _ _).mono ?_; rintro e w' ⟨rfl, rfl⟩)
  all_goals (try (go_region; go_wp2))
  refine bodyPost_ret (results_tmp3 (t := 2) (u := 3) (v := 4) rfl _ _ _) rfl ⟨rfl, ?_⟩
  repeat (first | exact Grown.refl _ | apply Grown.drew | apply Grown.alloc)
set_option maxRecDepth 100000 in
set_option maxHeartbeats 1000000 in
theorem code_13 (w : World) :
    Calls Tryd.prog 23 #[.int .i64 13] w fun e w' => e = .returned (.tuple #[.int .u32 3, .int .u32 2, .int .u32 0]) ∧ Grown w w' := by
  have hc : clsI 13 = 3 := by decide +kernel
  go_enter Tryd.func23, Tryd.ntmps23
  go_wp2_with (go_at_call 24; refine (rclass_any _ _).mono ?_; rintro e w' ⟨rfl, rfl⟩)
  all_goals (try (go_region; go_wp2))
  refine bodyPost_ret (results_tmp3 (t := 2) (u := 3) (v := 4) rfl _ _ _) rfl ⟨rfl, ?_⟩
  repeat (first | exact Grown.refl _ | apply Grown.drew | apply Grown.alloc)
set_option maxRecDepth 100000 in
set_option maxHeartbeats 1000000 in
theorem code_14 (w : World) :
    Calls Tryd.prog 23 #[.int .i64 14] w fun e w' => e = .returned (.tuple #[.int .u32 3, .int .u32 3, .int .u32 0]) ∧ Grown w w' := by
  have hc : clsI 14 = 3 := by decide +kernel
  go_enter Tryd.func23, Tryd.ntmps23
  go_wp2_with (go_at_call 24; refine (rclass_any _ _).mono ?_; rintro e w' ⟨rfl, rfl⟩)
  all_goals (try (go_region; go_wp2))
  refine bodyPost_ret (results_tmp3 (t := 2) (u := 3) (v := 4) rfl _ _ _) rfl ⟨rfl, ?_⟩
  repeat (first | exact Grown.refl _ | apply Grown.drew | apply Grown.alloc)
set_option maxRecDepth 100000 in
set_option maxHeartbeats 1000000 in
theorem code_15 (w : World) :
    Calls Tryd.prog 23 #[.int .i64 15] w fun e w' => e = .returned (.tuple #[.int .u32 3, .int .u32 4, .int .u32 0]) ∧ Grown w w' := by
  have hc : clsI 15 = 3 := by decide +kernel
  go_enter Tryd.func23, Tryd.ntmps23
  go_wp2_with (go_at_call 24; refine (rclass_any _ _).mono ?_; rintro e w' ⟨rfl, rfl⟩)
  all_goals (try (go_region; go_wp2))
  refine bodyPost_ret (results_tmp3 (t := 2) (u := 3) (v := 4) rfl _ _ _) rfl ⟨rfl, ?_⟩
  repeat (first | exact Grown.refl _ | apply Grown.drew | apply Grown.alloc)
set_option maxRecDepth 100000 in
set_option maxHeartbeats 1000000 in
theorem code_16 (w : World) :
    Calls Tryd.prog 23 #[.int .i64 16] w fun e w' => e = .returned (.tuple #[.int .u32 3, .int .u32 5, .int .u32 0]) ∧ Grown w w' := by
  have hc : clsI 16 = 3 := by decide +kernel
  go_enter Tryd.func23, Tryd.ntmps23
  go_wp2_with (go_at_call 24; refine (rclass_any _ _).mono ?_; rintro e w' ⟨rfl, rfl⟩)
  all_goals (try (go_region; go_wp2))
  refine bodyPost_ret (results_tmp3 (t := 2) (u := 3) (v := 4) rfl _ _ _) rfl ⟨rfl, ?_⟩
  repeat (first | exact Grown.refl _ | apply Grown.drew | apply Grown.alloc)
set_option maxRecDepth 100000 in
set_option maxHeartbeats 1000000 in
theorem code_17 (w : World) :
    Calls Tryd.prog 23 #[.int .i64 17] w fun e w' => e = .returned (.tuple #[.int .u32 3, .int .u32 6, .int .u32 0]) ∧ Grown w w' := by
  have hc : clsI 17 = 3 := by decide +kernel
  go_enter Tryd.func23, Tryd.ntmps23
  go_wp2_with (go_at_call 24; refine (rclass_any _ _).mono ?_; rintro e w' ⟨rfl, rfl⟩)
  all_goals (try (go_region; go_wp2))
  refine bodyPost_ret (results_tmp3 (t := 2) (u := 3) (v := 4) rfl _ _ _) rfl ⟨rfl, ?_⟩
  repeat (first | exact Grown.refl _ | apply Grown.drew | apply Grown.alloc)
set_option maxRecDepth 100000 in
set_option maxHeartbeats 1000000 in
theorem code_18 (w : World) :
    Calls Tryd.prog 23 #[.int .i64 18] w fun e w' => e = .returned (.tuple #[.int .u32 35, .int .u32 0, .int .u32 0]) ∧ Grown w w' := by
  have hc : clsI 18 = 4 := by decide +kernel
  go_enter Tryd.func23, Tryd.ntmps23
  go_wp2_with (go_at_call 24; refine (rclass_any _ _).mono ?_; rintro e w' ⟨rfl, rfl⟩)
  all_goals (try (go_region; go_wp2))
  refine bodyPost_ret (results_tmp3 (t := 2) (u := 3) (v := 4) rfl _ _ _) rfl ⟨rfl, ?_⟩
  repeat (first | exact Grown.refl _ | apply Grown.drew | apply Grown.alloc)
set_option maxRecDepth 100000 in
set_option maxHeartbeats 1000000 in
theorem code_19 (w : World) :
    Calls Tryd.prog 23 #[.int .i64 19] w fun e w' => e = .returned (.tuple #[.int .u32 35, .int .u32 1, .int .u32 0]) ∧ Grown w w' := by
  have hc : clsI 19 = 4 := by decide +kernel
  go_enter Tryd.func23, Tryd.ntmps23
  go_wp2_with (go_at_call 24; refine (rclass_any _ _).mono ?_; rintro e w' ⟨rfl, rfl⟩)
  all_goals (try (go_region; go_wp2))
  refine bodyPost_ret (results_tmp3 (t := 2) (u := 3) (v := 4) rfl _ _ _) rfl ⟨rfl, ?_⟩
  repeat (first | exact Grown.refl _ | apply Grown.drew | apply Grown.alloc)
set_option maxRecDepth 100000 in
set_option maxHeartbeats 1000000 in
theorem code_20 (w : World) :
    Calls Tryd.prog 23 #[.int .i64 20] w fun e w' => e = .returned (.tuple #[.int .u32 35, .int .u32 2, .int .u32 0]) ∧ Grown w w' := by
  have hc : clsI 20 = 4 := by decide +kernel
  go_enter Tryd.func23, Tryd.ntmps23
  go_wp2_with (go_at_call 24; refine (rclass_any _ _).mono ?_; rintro e w' ⟨rfl, rfl⟩)
  all_goals (try (go_region; go_wp2))
  refine bodyPost_ret (results_tmp3 (t := 2) (u := 3) (v := 4) rfl _ _ _) rfl ⟨rfl, ?_⟩
  repeat (first | exact Grown.refl _ | apply Grown.drew | apply Grown.alloc)
set_option maxRecDepth 100000 in
set_option maxHeartbeats 1000000 in
theorem code_21 (w : World) :
    Calls Tryd.prog 23 #[.int .i64 21] w fun e w' => e = .returned (.tuple #[.int .u32 35, .int .u32 3, .int .u32 0]) ∧ Grown w w' := by
  have hc : clsI 21 = 4 := by decide +kernel
  go_enter Tryd.func23, Tryd.ntmps23
  go_wp2_with (go_at_call 24; refine (rclass_any _ _).mono ?_; rintro e w' ⟨rfl, rfl⟩)
  all_goals (try (go_region; go_wp2))
  refine bodyPost_ret (results_tmp3 (t := 2) (u := 3) (v := 4) rfl _ _ _) rfl ⟨rfl, ?_⟩
  repeat (first | exact Grown.refl _ | apply Grown.drew | apply Grown.alloc)
end Go.Proofs.YtdogjmimjjmmaaaDoor
namespace Go.Proofs.YtdogjmimjjmmaaaDoor
open Go.RowKit
set_option maxRecDepth 100000 in
set_option maxHeartbeats 1000000 in
theorem code_22 (w : World) :
    Calls Tryd.prog 23 #[.int .i64 22] w fun e w' => e = .returned (.tuple #[.int .u32 19, .int .u32 0, .int .u32 0]) ∧ Grown w w' := by
  have hc : clsI 22 = 5 := by decide +kernel
  go_enter Tryd.func23, Tryd.ntmps23
  go_wp2_with (go_at_call 24; refine (rclass_any _ _).mono ?_; rintro e w' ⟨rfl, rfl⟩)
  all_goals (try (go_region; go_wp2))
  refine bodyPost_ret (results_tmp3 (t := 2) (u := 3) (v := 4) rfl _ _ _) rfl ⟨rfl, ?_⟩
  repeat (first | exact Grown.refl _ | apply Grown.drew | apply Grown.alloc)
set_option maxRecDepth 100000 in
set_option maxHeartbeats 1000000 in
theorem code_23 (w : World) :
    Calls Tryd.prog 23 #[.int .i64 23] w fun e w' => e = .returned (.tuple #[.int .u32 19, .int .u32 2, .int .u32 0]) ∧ Grown w w' := by
  have hc : clsI 23 = 5 := by decide +kernel
  go_enter Tryd.func23, Tryd.ntmps23
  go_wp2_with (go_at_call 24; refine (rclass_any _ _).mono ?_; rintro e w' ⟨rfl, rfl⟩)
  all_goals (try (go_region; go_wp2))
  refine bodyPost_ret (results_tmp3 (t := 2) (u := 3) (v := 4) rfl _ _ _) rfl ⟨rfl, ?_⟩
  repeat (first | exact Grown.refl _ | apply Grown.drew | apply Grown.alloc)
set_option maxRecDepth 100000 in
set_option maxHeartbeats 1000000 in
theorem code_24 (w : World) :
    Calls Tryd.prog 23 #[.int .i64 24] w fun e w' => e = .returned (.tuple #[.int .u32 19, .int .u32 3, .int .u32 0]) ∧ Grown w w' := by
  have hc : clsI 24 = 5 := by decide +kernel
  go_enter Tryd.func23, Tryd.ntmps23
  go_wp2_with (go_at_call 24; refine (rclass_any _ _).mono ?_; rintro e w' ⟨rfl, rfl⟩)
  all_goals (try (go_region; go_wp2))
  refine bodyPost_ret (results_tmp3 (t := 2) (u := 3) (v := 4) rfl _ _ _) rfl ⟨rfl, ?_⟩
  repeat (first | exact Grown.refl _ | apply Grown.drew | apply Grown.alloc)
set_option maxRecDepth 100000 in
set_option maxHeartbeats 1000000 in
theorem code_25 (w : World) :
    Calls Tryd.prog 23 #[.int .i64 25] w fun e w' => e = .returned (.tuple #[.int .u32 19, .int .u32 4, .int .u32 0]) ∧ Grown w w' := by
  have hc : clsI 25 = 5 := by decide +kernel
  go_enter Tryd.func23, Tryd.ntmps23
  go_wp2_with (go_at_call 24; refine (rclass_any _ _).mono ?_; rintro e w' ⟨rfl, rfl⟩)
  all_goals (try (go_region; go_wp2))
  refine bodyPost_ret (results_tmp3 (t := 2) (u := 3) (v := 4) rfl _ _ _) rfl ⟨rfl, ?_⟩
  repeat (first | exact Grown.refl _ | apply Grown.drew | apply Grown.alloc)
set_option maxRecDepth 100000 in
set_option maxHeartbeats 1000000 in
theorem code_26 (w : World) :
    Calls Tryd.prog 23 #[.int .i64 26] w fun e w' => e = .returned (.tuple #[.int .u32 19, .int .u32 6, .int .u32 0]) ∧ Grown w w' := by
  have hc : clsI 26 = 5 := by decide +kernel
  go_enter Tryd.func23, Tryd.ntmps23
  go_wp2_with (go_at_call 24; refine (rclass_any _ _).mono ?_; rintro e w' ⟨rfl, rfl⟩)
  all_goals (try (go_region; go_wp2))
  refine bodyPost_ret (results_tmp3 (t := 2) (u := 3) (v := 4) rfl _ _ _) rfl ⟨rfl, ?_⟩
  repeat (first | exact Grown.refl _ | apply Grown.drew | apply Grown.alloc)
set_option maxRecDepth 100000 in
set_option maxHeartbeats 1000000 in
theorem code_27 (w : World) :
    Calls Tryd.prog 23 #[.int .i64 27] w fun e w' => e = .returned (.tuple #[.int .u32 19, .int .u32 7, .int .u32 0]) ∧ Grown w w' := by
  have hc : clsI 27 = 5 := by decide +kernel
  go_enter Tryd.func23, Tryd.ntmps23
  go_wp2_with (go_at_call 24; refine (rclass_any _ _).mono ?_; rintro e w' ⟨rfl, rfl⟩)
  all_goals (try (go_region; go_wp2))
  refine bodyPost_ret (results_tmp3 (t := 2) (u := 3) (v := 4) rfl _ _ _) rfl ⟨rfl, ?_⟩
  repeat (first | exact Grown.refl _ | apply Grown.drew | apply Grown.alloc)
set_option maxRecDepth 100000 in
set_option maxHeartbeats 1000000 in
theorem code_28 (w : World) :
    Calls Tryd.prog 23 #[.int .i64 28] w fun e w' => e = .returned (.tuple #[.int .u32 19, .int .u32 1, .int .u32 0]) ∧ Grown w w' := by
  have hc : clsI 28 = 5 := by decide +kernel
  go_enter Tryd.func23, Tryd.ntmps23
  go_wp2_with (go_at_call 24; refine (rclass_any _ _).mono ?_; rintro e w' ⟨rfl, rfl⟩)
  all_goals (try (go_region; go_wp2))
  refine bodyPost_ret (results_tmp3 (t := 2) (u := 3) (v := 4) rfl _ _ _) rfl ⟨rfl, ?_⟩
  repeat (first | exact Grown.refl _ | apply Grown.drew | apply Grown.alloc)
set_option maxRecDepth 100000 in
set_option maxHeartbeats 1000000 in
theorem code_29 (w : World) :
    Calls Tryd.prog 23 #[.int .i64 29] w fun e w' => e = .returned (.tuple #[.int .u32 19, .int .u32 5, .int .u32 0]) ∧ Grown w w' := by
  have hc : clsI 29 = 5 := by decide +kernel
  go_enter Tryd.func23, Tryd.ntmps23
  go_wp2_with (go_at_call 24; refine (rclass_any _ _).mono ?_; rintro e w' ⟨rfl, rfl⟩)
  all_goals (try (go_region; go_wp2))
  refine bodyPost_ret (results_tmp3 (t := 2) (u := 3) (v := 4) rfl _ _ _) rfl ⟨rfl, ?_⟩
  repeat (first | exact Grown.refl _ | apply Grown.drew | apply Grown.alloc)
set_option maxRecDepth 100000 in
set_option maxHeartbeats 1000000 in
theorem code_30 (w : World) :
    Calls Tryd.prog 23 #[.int .i64 30] w fun e w' => e = .returned (.tuple #[.int .u32 19, .int .u32 5, .int .u32 32]) ∧ Grown w w' := by
  have hc : clsI 30 = 5 := by decide +kernel
  go_enter Tryd.func23, Tryd.ntmps23
  go_wp2_with (go_at_call 24; refine (rclass_any _ _).mono ?_; rintro e w' ⟨rfl, rfl⟩)
  all_goals (try (go_region; go_wp2))
  refine bodyPost_ret (results_tmp3 (t := 2) (u := 3) (v := 4) rfl _ _ _) rfl ⟨rfl, ?_⟩
  repeat (first | exact Grown.refl _ | apply Grown.drew | apply Grown.alloc)
set_option maxRecDepth 100000 in
set_option maxHeartbeats 1000000 in
theorem code_31 (w : World) :
    Calls Tryd.prog 23 #[.int .i64 31] w fun e w' => e = .returned (.tuple #[.int .u32 27, .int .u32 0, .int .u32 0]) ∧ Grown w w' := by
  have hc : clsI 31 = 5 := by decide +kernel
  go_enter Tryd.func23, Tryd.ntmps23
  go_wp2_with (go_at_call 24; refine (rclass_any _ _).mono ?_; rintro e w' ⟨rfl, rfl⟩)
  all_goals (try (go_region; go_wp2))
  refine bodyPost_ret (results_tmp3 (t := 2) (u := 3) (v := 4) rfl _ _ _) rfl ⟨rfl, ?_⟩
  repeat (first | exact Grown.refl _ | apply Grown.drew | apply Grown.alloc)
set_option maxRecDepth 100000 in
set_option maxHeartbeats 1000000 in
theorem code_32 (w : World) :
    Calls Tryd.prog 23 #[.int .i64 32] w fun e w' => e = .returned (.tuple #[.int .u32 27, .int .u32 1, .int .u32 0]) ∧ Grown w w' := by
  have hc : clsI 32 = 5 := by decide +kernel
  go_enter Tryd.func23, Tryd.ntmps23
  go_wp2_with (go_at_call 24; refine (rclass_any _ _).mono ?_; rintro e w' ⟨rfl, rfl⟩)
  all_goals (try (go_region; go_wp2))
  refine bodyPost_ret (results_tmp3 (t := 2) (u := 3) (v := 4) rfl _ _ _) rfl ⟨rfl, ?_⟩
  repeat (first | exact Grown.refl _ | apply Grown.drew | apply Grown.alloc)
set_option maxRecDepth 100000 in
set_option maxHeartbeats 1000000 in
theorem code_33 (w : World) :
    Calls Tryd.prog 23 #[.int .i64 33] w fun e w' => e = .returned (.tuple #[.int .u32 27, .int .u32 5, .int .u32 0]) ∧ Grown w w' := by
  have hc : clsI 33 = 5 := by decide +kernel
  go_enter Tryd.func23, Tryd.ntmps23
  go_wp2_with (go_at_call 24; refine (rclass_any _ _).mono ?_; rintro e w' ⟨rfl, rfl⟩)
  all_goals (try (go_region; go_wp2))
  refine bodyPost_ret (results_tmp3 (t := 2) (u := 3) (v := 4) rfl _ _ _) rfl ⟨rfl, ?_⟩
  repeat (first | exact Grown.refl _ | apply Grown.drew | apply Grown.alloc)
set_option maxRecDepth 100000 in
set_option maxHeartbeats 1000000 in
theorem code_34 (w : World) :
    Calls Tryd.prog 23 #[.int .i64 34] w fun e w' => e = .returned (.tuple #[.int .u32 27, .int .u32 5, .int .u32 32]) ∧ Grown w w' := by
  have hc : clsI 34 = 5 := by decide +kernel
  go_enter Tryd.func23, Tryd.ntmps23
  go_wp2_with (go_at_call 24; refine (rclass_any _ _).mono ?_; rintro e w' ⟨rfl, rfl⟩)
  all_goals (try (go_region; go_wp2))
  refine bodyPost_ret (results_tmp3 (t := 2) (u := 3) (v := 4) rfl _ _ _) rfl ⟨rfl, ?_⟩
  repeat (first | exact Grown.refl _ | apply Grown.drew | apply Grown.alloc)
end Go.Proofs.YtdogjmimjjmmaaaDoor
