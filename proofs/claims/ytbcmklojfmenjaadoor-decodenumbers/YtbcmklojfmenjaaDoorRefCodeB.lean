/-
  The codes of the operations, as the document's words have them (the reference of layers 3 and 4): walked, operation by operation.
-/
import Derived.Test.YtbcmklojfmenjaaDoorRefIs
import Derived.OwnWalk
import Derived.Deep.WholeRow
namespace Go.Proofs.YtbcmklojfmenjaaDoor
open Go.RowKit
set_option maxRecDepth 100000 in
set_option maxHeartbeats 1000000 in
theorem code_22 (w : World) :
    Calls Tryd.prog 19 #[.int .i64 22] w fun e w' => e = .returned (.tuple #[.int .u32 19, .int .u32 0, .int .u32 0]) ∧ Grown w w' := by
  have hc : clsI 22 = 5 := by decide +kernel
  go_enter Tryd.func19, Tryd.ntmps19
  go_wp2_with (go_at_call 23; refine (rclass_any _ _).mono ?_; rintro e w' ⟨rfl, rfl⟩)
  all_goals (try (go_region; go_wp2))
  refine bodyPost_ret (results_tmp3 (t := 2) (u := 3) (v := 4) rfl _ _ _) rfl ⟨rfl, ?_⟩
  repeat (first | exact Grown.refl _ | apply Grown.drew | apply Grown.alloc)
set_option maxRecDepth 100000 in
set_option maxHeartbeats 1000000 in
theorem code_23 (w : World) :
    Calls Tryd.prog 19 #[.int .i64 23] w fun e w' => e = .returned (.tuple #[.int .u32 19, .int .u32 2, .int .u32 0]) ∧ Grown w w' := by
  have hc : clsI 23 = 5 := by decide +kernel
  go_enter Tryd.func19, Tryd.ntmps19
  go_wp2_with (go_at_call 23; refine (rclass_any _ _).mono ?_; rintro e w' ⟨rfl, rfl⟩)
  all_goals (try (go_region; go_wp2))
  refine bodyPost_ret (results_tmp3 (t := 2) (u := 3) (v := 4) rfl _ _ _) rfl ⟨rfl, ?_⟩
  repeat (first | exact Grown.refl _ | apply Grown.drew | apply Grown.alloc)
set_option maxRecDepth 100000 in
set_option maxHeartbeats 1000000 in
theorem code_24 (w : World) :
    Calls Tryd.prog 19 #[.int .i64 24] w fun e w' => e = .returned (.tuple #[.int .u32 19, .int .u32 3, .int .u32 0]) ∧ Grown w w' := by
  have hc : clsI 24 = 5 := by decide +kernel
  go_enter Tryd.func19, Tryd.ntmps19
  go_wp2_with (go_at_call 23; refine (rclass_any _ _).mono ?_; rintro e w' ⟨rfl, rfl⟩)
  all_goals (try (go_region; go_wp2))
  refine bodyPost_ret (results_tmp3 (t := 2) (u := 3) (v := 4) rfl _ _ _) rfl ⟨rfl, ?_⟩
  repeat (first | exact Grown.refl _ | apply Grown.drew | apply Grown.alloc)
set_option maxRecDepth 100000 in
set_option maxHeartbeats 1000000 in
theorem code_25 (w : World) :
    Calls Tryd.prog 19 #[.int .i64 25] w fun e w' => e = .returned (.tuple #[.int .u32 19, .int .u32 4, .int .u32 0]) ∧ Grown w w' := by
  have hc : clsI 25 = 5 := by decide +kernel
  go_enter Tryd.func19, Tryd.ntmps19
  go_wp2_with (go_at_call 23; refine (rclass_any _ _).mono ?_; rintro e w' ⟨rfl, rfl⟩)
  all_goals (try (go_region; go_wp2))
  refine bodyPost_ret (results_tmp3 (t := 2) (u := 3) (v := 4) rfl _ _ _) rfl ⟨rfl, ?_⟩
  repeat (first | exact Grown.refl _ | apply Grown.drew | apply Grown.alloc)
set_option maxRecDepth 100000 in
set_option maxHeartbeats 1000000 in
theorem code_26 (w : World) :
    Calls Tryd.prog 19 #[.int .i64 26] w fun e w' => e = .returned (.tuple #[.int .u32 19, .int .u32 6, .int .u32 0]) ∧ Grown w w' := by
  have hc : clsI 26 = 5 := by decide +kernel
  go_enter Tryd.func19, Tryd.ntmps19
  go_wp2_with (go_at_call 23; refine (rclass_any _ _).mono ?_; rintro e w' ⟨rfl, rfl⟩)
  all_goals (try (go_region; go_wp2))
  refine bodyPost_ret (results_tmp3 (t := 2) (u := 3) (v := 4) rfl _ _ _) rfl ⟨rfl, ?_⟩
  repeat (first | exact Grown.refl _ | apply Grown.drew | apply Grown.alloc)
set_option maxRecDepth 100000 in
set_option maxHeartbeats 1000000 in
theorem code_27 (w : World) :
    Calls Tryd.prog 19 #[.int .i64 27] w fun e w' => e = .returned (.tuple #[.int .u32 19, .int .u32 7, .int .u32 0]) ∧ Grown w w' := by
  have hc : clsI 27 = 5 := by decide +kernel
  go_enter Tryd.func19, Tryd.ntmps19
  go_wp2_with (go_at_call 23; refine (rclass_any _ _).mono ?_; rintro e w' ⟨rfl, rfl⟩)
  all_goals (try (go_region; go_wp2))
  refine bodyPost_ret (results_tmp3 (t := 2) (u := 3) (v := 4) rfl _ _ _) rfl ⟨rfl, ?_⟩
  repeat (first | exact Grown.refl _ | apply Grown.drew | apply Grown.alloc)
set_option maxRecDepth 100000 in
set_option maxHeartbeats 1000000 in
theorem code_28 (w : World) :
    Calls Tryd.prog 19 #[.int .i64 28] w fun e w' => e = .returned (.tuple #[.int .u32 19, .int .u32 1, .int .u32 0]) ∧ Grown w w' := by
  have hc : clsI 28 = 5 := by decide +kernel
  go_enter Tryd.func19, Tryd.ntmps19
  go_wp2_with (go_at_call 23; refine (rclass_any _ _).mono ?_; rintro e w' ⟨rfl, rfl⟩)
  all_goals (try (go_region; go_wp2))
  refine bodyPost_ret (results_tmp3 (t := 2) (u := 3) (v := 4) rfl _ _ _) rfl ⟨rfl, ?_⟩
  repeat (first | exact Grown.refl _ | apply Grown.drew | apply Grown.alloc)
set_option maxRecDepth 100000 in
set_option maxHeartbeats 1000000 in
theorem code_29 (w : World) :
    Calls Tryd.prog 19 #[.int .i64 29] w fun e w' => e = .returned (.tuple #[.int .u32 19, .int .u32 5, .int .u32 0]) ∧ Grown w w' := by
  have hc : clsI 29 = 5 := by decide +kernel
  go_enter Tryd.func19, Tryd.ntmps19
  go_wp2_with (go_at_call 23; refine (rclass_any _ _).mono ?_; rintro e w' ⟨rfl, rfl⟩)
  all_goals (try (go_region; go_wp2))
  refine bodyPost_ret (results_tmp3 (t := 2) (u := 3) (v := 4) rfl _ _ _) rfl ⟨rfl, ?_⟩
  repeat (first | exact Grown.refl _ | apply Grown.drew | apply Grown.alloc)
set_option maxRecDepth 100000 in
set_option maxHeartbeats 1000000 in
theorem code_30 (w : World) :
    Calls Tryd.prog 19 #[.int .i64 30] w fun e w' => e = .returned (.tuple #[.int .u32 19, .int .u32 5, .int .u32 32]) ∧ Grown w w' := by
  have hc : clsI 30 = 5 := by decide +kernel
  go_enter Tryd.func19, Tryd.ntmps19
  go_wp2_with (go_at_call 23; refine (rclass_any _ _).mono ?_; rintro e w' ⟨rfl, rfl⟩)
  all_goals (try (go_region; go_wp2))
  refine bodyPost_ret (results_tmp3 (t := 2) (u := 3) (v := 4) rfl _ _ _) rfl ⟨rfl, ?_⟩
  repeat (first | exact Grown.refl _ | apply Grown.drew | apply Grown.alloc)
set_option maxRecDepth 100000 in
set_option maxHeartbeats 1000000 in
theorem code_31 (w : World) :
    Calls Tryd.prog 19 #[.int .i64 31] w fun e w' => e = .returned (.tuple #[.int .u32 27, .int .u32 0, .int .u32 0]) ∧ Grown w w' := by
  have hc : clsI 31 = 5 := by decide +kernel
  go_enter Tryd.func19, Tryd.ntmps19
  go_wp2_with (go_at_call 23; refine (rclass_any _ _).mono ?_; rintro e w' ⟨rfl, rfl⟩)
  all_goals (try (go_region; go_wp2))
  refine bodyPost_ret (results_tmp3 (t := 2) (u := 3) (v := 4) rfl _ _ _) rfl ⟨rfl, ?_⟩
  repeat (first | exact Grown.refl _ | apply Grown.drew | apply Grown.alloc)
set_option maxRecDepth 100000 in
set_option maxHeartbeats 1000000 in
theorem code_32 (w : World) :
    Calls Tryd.prog 19 #[.int .i64 32] w fun e w' => e = .returned (.tuple #[.int .u32 27, .int .u32 1, .int .u32 0]) ∧ Grown w w' := by
  have hc : clsI 32 = 5 := by decide +kernel
  go_enter Tryd.func19, Tryd.ntmps19
  go_wp2_with (go_at_call 23; refine (rclass_any _ _).mono ?_; rintro e w' ⟨rfl, rfl⟩)
  all_goals (try (go_region; go_wp2))
  refine bodyPost_ret (results_tmp3 (t := 2) (u := 3) (v := 4) rfl _ _ _) rfl ⟨rfl, ?_⟩
  repeat (first | exact Grown.refl _ | apply Grown.drew | apply Grown.alloc)
set_option maxRecDepth 100000 in
set_option maxHeartbeats 1000000 in
theorem code_33 (w : World) :
    Calls Tryd.prog 19 #[.int .i64 33] w fun e w' => e = .returned (.tuple #[.int .u32 27, .int .u32 5, .int .u32 0]) ∧ Grown w w' := by
  have hc : clsI 33 = 5 := by decide +kernel
  go_enter Tryd.func19, Tryd.ntmps19
  go_wp2_with (go_at_call 23; refine (rclass_any _ _).mono ?_; rintro e w' ⟨rfl, rfl⟩)
  all_goals (try (go_region; go_wp2))
  refine bodyPost_ret (results_tmp3 (t := 2) (u := 3) (v := 4) rfl _ _ _) rfl ⟨rfl, ?_⟩
  repeat (first | exact Grown.refl _ | apply Grown.drew | apply Grown.alloc)
set_option maxRecDepth 100000 in
set_option maxHeartbeats 1000000 in
theorem code_34 (w : World) :
    Calls Tryd.prog 19 #[.int .i64 34] w fun e w' => e = .returned (.tuple #[.int .u32 27, .int .u32 5, .int .u32 32]) ∧ Grown w w' := by
  have hc : clsI 34 = 5 := by decide +kernel
  go_enter Tryd.func19, Tryd.ntmps19
  go_wp2_with (go_at_call 23; refine (rclass_any _ _).mono ?_; rintro e w' ⟨rfl, rfl⟩)
  all_goals (try (go_region; go_wp2))
  refine bodyPost_ret (results_tmp3 (t := 2) (u := 3) (v := 4) rfl _ _ _) rfl ⟨rfl, ?_⟩
  repeat (first | exact Grown.refl _ | apply Grown.drew | apply Grown.alloc)
end Go.Proofs.YtbcmklojfmenjaaDoor
