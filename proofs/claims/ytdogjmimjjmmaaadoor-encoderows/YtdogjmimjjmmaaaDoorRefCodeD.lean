/-
  The codes of the operations, as the document's words have them (the reference of layers 3 and 4): walked, operation by operation.
-/
import Derived.Test.YtdogjmimjjmmaaaDoorRefIs
import Derived.OwnWalk
import Derived.Deep.WholeRow
namespace Go.Proofs.YtdogjmimjjmmaaaDoor
open Go.RowKit
set_option maxRecDepth 100000 in
set_option maxHeartbeats 1000000 in
theorem code_45 (w : World) :
    Calls Tryd.prog 23 #[.int .i64 45] w fun e w' => e = .returned (.tuple #[.int .u32 59, .int .u32 0, .int .u32 0]) ∧ Grown w w' := by
  have hc : clsI 45 = 6 := by decide +kernel
  go_enter Tryd.func23, Tryd.ntmps23
  go_wp2_with (go_at_call 24; refine (rclass_any _ _).mono ?_; rintro e w' ⟨rfl, rfl⟩)
  all_goals (try (go_region; go_wp2))
  refine bodyPost_ret (results_tmp3 (t := 2) (u := 3) (v := 4) rfl _ _ _) rfl ⟨rfl, ?_⟩
  repeat (first | exact Grown.refl _ | apply Grown.drew | apply Grown.alloc)
set_option maxRecDepth 100000 in
set_option maxHeartbeats 1000000 in
theorem code_46 (w : World) :
    Calls Tryd.prog 23 #[.int .i64 46] w fun e w' => e = .returned (.tuple #[.int .u32 59, .int .u32 0, .int .u32 32]) ∧ Grown w w' := by
  have hc : clsI 46 = 6 := by decide +kernel
  go_enter Tryd.func23, Tryd.ntmps23
  go_wp2_with (go_at_call 24; refine (rclass_any _ _).mono ?_; rintro e w' ⟨rfl, rfl⟩)
  all_goals (try (go_region; go_wp2))
  refine bodyPost_ret (results_tmp3 (t := 2) (u := 3) (v := 4) rfl _ _ _) rfl ⟨rfl, ?_⟩
  repeat (first | exact Grown.refl _ | apply Grown.drew | apply Grown.alloc)
set_option maxRecDepth 100000 in
set_option maxHeartbeats 1000000 in
theorem code_47 (w : World) :
    Calls Tryd.prog 23 #[.int .i64 47] w fun e w' => e = .returned (.tuple #[.int .u32 59, .int .u32 1, .int .u32 0]) ∧ Grown w w' := by
  have hc : clsI 47 = 6 := by decide +kernel
  go_enter Tryd.func23, Tryd.ntmps23
  go_wp2_with (go_at_call 24; refine (rclass_any _ _).mono ?_; rintro e w' ⟨rfl, rfl⟩)
  all_goals (try (go_region; go_wp2))
  refine bodyPost_ret (results_tmp3 (t := 2) (u := 3) (v := 4) rfl _ _ _) rfl ⟨rfl, ?_⟩
  repeat (first | exact Grown.refl _ | apply Grown.drew | apply Grown.alloc)
set_option maxRecDepth 100000 in
set_option maxHeartbeats 1000000 in
theorem code_48 (w : World) :
    Calls Tryd.prog 23 #[.int .i64 48] w fun e w' => e = .returned (.tuple #[.int .u32 59, .int .u32 5, .int .u32 0]) ∧ Grown w w' := by
  have hc : clsI 48 = 6 := by decide +kernel
  go_enter Tryd.func23, Tryd.ntmps23
  go_wp2_with (go_at_call 24; refine (rclass_any _ _).mono ?_; rintro e w' ⟨rfl, rfl⟩)
  all_goals (try (go_region; go_wp2))
  refine bodyPost_ret (results_tmp3 (t := 2) (u := 3) (v := 4) rfl _ _ _) rfl ⟨rfl, ?_⟩
  repeat (first | exact Grown.refl _ | apply Grown.drew | apply Grown.alloc)
set_option maxRecDepth 100000 in
set_option maxHeartbeats 1000000 in
theorem code_49 (w : World) :
    Calls Tryd.prog 23 #[.int .i64 49] w fun e w' => e = .returned (.tuple #[.int .u32 59, .int .u32 5, .int .u32 32]) ∧ Grown w w' := by
  have hc : clsI 49 = 6 := by decide +kernel
  go_enter Tryd.func23, Tryd.ntmps23
  go_wp2_with (go_at_call 24; refine (rclass_any _ _).mono ?_; rintro e w' ⟨rfl, rfl⟩)
  all_goals (try (go_region; go_wp2))
  refine bodyPost_ret (results_tmp3 (t := 2) (u := 3) (v := 4) rfl _ _ _) rfl ⟨rfl, ?_⟩
  repeat (first | exact Grown.refl _ | apply Grown.drew | apply Grown.alloc)
set_option maxRecDepth 100000 in
set_option maxHeartbeats 1000000 in
theorem code_50 (w : World) :
    Calls Tryd.prog 23 #[.int .i64 50] w fun e w' => e = .returned (.tuple #[.int .u32 0, .int .u32 0, .int .u32 0]) ∧ Grown w w' := by
  have hc : clsI 50 = 7 := by decide +kernel
  go_enter Tryd.func23, Tryd.ntmps23
  go_wp2_with (go_at_call 24; refine (rclass_any _ _).mono ?_; rintro e w' ⟨rfl, rfl⟩)
  all_goals (try (go_region; go_wp2))
  refine bodyPost_ret (results_tmp3 (t := 2) (u := 3) (v := 4) rfl _ _ _) rfl ⟨rfl, ?_⟩
  repeat (first | exact Grown.refl _ | apply Grown.drew | apply Grown.alloc)
set_option maxRecDepth 100000 in
set_option maxHeartbeats 1000000 in
theorem code_51 (w : World) :
    Calls Tryd.prog 23 #[.int .i64 51] w fun e w' => e = .returned (.tuple #[.int .u32 0, .int .u32 0, .int .u32 0]) ∧ Grown w w' := by
  have hc : clsI 51 = 7 := by decide +kernel
  go_enter Tryd.func23, Tryd.ntmps23
  go_wp2_with (go_at_call 24; refine (rclass_any _ _).mono ?_; rintro e w' ⟨rfl, rfl⟩)
  all_goals (try (go_region; go_wp2))
  refine bodyPost_ret (results_tmp3 (t := 2) (u := 3) (v := 4) rfl _ _ _) rfl ⟨rfl, ?_⟩
  repeat (first | exact Grown.refl _ | apply Grown.drew | apply Grown.alloc)
set_option maxRecDepth 100000 in
set_option maxHeartbeats 1000000 in
theorem code_52 (w : World) :
    Calls Tryd.prog 23 #[.int .i64 52] w fun e w' => e = .returned (.tuple #[.int .u32 0, .int .u32 0, .int .u32 0]) ∧ Grown w w' := by
  have hc : clsI 52 = 8 := by decide +kernel
  go_enter Tryd.func23, Tryd.ntmps23
  go_wp2_with (go_at_call 24; refine (rclass_any _ _).mono ?_; rintro e w' ⟨rfl, rfl⟩)
  all_goals (try (go_region; go_wp2))
  refine bodyPost_ret (results_tmp3 (t := 2) (u := 3) (v := 4) rfl _ _ _) rfl ⟨rfl, ?_⟩
  repeat (first | exact Grown.refl _ | apply Grown.drew | apply Grown.alloc)
set_option maxRecDepth 100000 in
set_option maxHeartbeats 1000000 in
theorem code_53 (w : World) :
    Calls Tryd.prog 23 #[.int .i64 53] w fun e w' => e = .returned (.tuple #[.int .u32 0, .int .u32 0, .int .u32 0]) ∧ Grown w w' := by
  have hc : clsI 53 = 8 := by decide +kernel
  go_enter Tryd.func23, Tryd.ntmps23
  go_wp2_with (go_at_call 24; refine (rclass_any _ _).mono ?_; rintro e w' ⟨rfl, rfl⟩)
  all_goals (try (go_region; go_wp2))
  refine bodyPost_ret (results_tmp3 (t := 2) (u := 3) (v := 4) rfl _ _ _) rfl ⟨rfl, ?_⟩
  repeat (first | exact Grown.refl _ | apply Grown.drew | apply Grown.alloc)
set_option maxRecDepth 100000 in
set_option maxHeartbeats 1000000 in
theorem code_54 (w : World) :
    Calls Tryd.prog 23 #[.int .i64 54] w fun e w' => e = .returned (.tuple #[.int .u32 115, .int .u32 1, .int .u32 0]) ∧ Grown w w' := by
  have hc : clsI 54 = 9 := by decide +kernel
  go_enter Tryd.func23, Tryd.ntmps23
  go_wp2_with (go_at_call 24; refine (rclass_any _ _).mono ?_; rintro e w' ⟨rfl, rfl⟩)
  all_goals (try (go_region; go_wp2))
  refine bodyPost_ret (results_tmp3 (t := 2) (u := 3) (v := 4) rfl _ _ _) rfl ⟨rfl, ?_⟩
  repeat (first | exact Grown.refl _ | apply Grown.drew | apply Grown.alloc)
set_option maxRecDepth 100000 in
set_option maxHeartbeats 1000000 in
theorem code_55 (w : World) :
    Calls Tryd.prog 23 #[.int .i64 55] w fun e w' => e = .returned (.tuple #[.int .u32 115, .int .u32 2, .int .u32 0]) ∧ Grown w w' := by
  have hc : clsI 55 = 9 := by decide +kernel
  go_enter Tryd.func23, Tryd.ntmps23
  go_wp2_with (go_at_call 24; refine (rclass_any _ _).mono ?_; rintro e w' ⟨rfl, rfl⟩)
  all_goals (try (go_region; go_wp2))
  refine bodyPost_ret (results_tmp3 (t := 2) (u := 3) (v := 4) rfl _ _ _) rfl ⟨rfl, ?_⟩
  repeat (first | exact Grown.refl _ | apply Grown.drew | apply Grown.alloc)
set_option maxRecDepth 100000 in
set_option maxHeartbeats 1000000 in
theorem code_56 (w : World) :
    Calls Tryd.prog 23 #[.int .i64 56] w fun e w' => e = .returned (.tuple #[.int .u32 115, .int .u32 3, .int .u32 0]) ∧ Grown w w' := by
  have hc : clsI 56 = 9 := by decide +kernel
  go_enter Tryd.func23, Tryd.ntmps23
  go_wp2_with (go_at_call 24; refine (rclass_any _ _).mono ?_; rintro e w' ⟨rfl, rfl⟩)
  all_goals (try (go_region; go_wp2))
  refine bodyPost_ret (results_tmp3 (t := 2) (u := 3) (v := 4) rfl _ _ _) rfl ⟨rfl, ?_⟩
  repeat (first | exact Grown.refl _ | apply Grown.drew | apply Grown.alloc)
set_option maxRecDepth 100000 in
set_option maxHeartbeats 1000000 in
theorem code_57 (w : World) :
    Calls Tryd.prog 23 #[.int .i64 57] w fun e w' => e = .returned (.tuple #[.int .u32 115, .int .u32 5, .int .u32 0]) ∧ Grown w w' := by
  have hc : clsI 57 = 9 := by decide +kernel
  go_enter Tryd.func23, Tryd.ntmps23
  go_wp2_with (go_at_call 24; refine (rclass_any _ _).mono ?_; rintro e w' ⟨rfl, rfl⟩)
  all_goals (try (go_region; go_wp2))
  refine bodyPost_ret (results_tmp3 (t := 2) (u := 3) (v := 4) rfl _ _ _) rfl ⟨rfl, ?_⟩
  repeat (first | exact Grown.refl _ | apply Grown.drew | apply Grown.alloc)
set_option maxRecDepth 100000 in
set_option maxHeartbeats 1000000 in
theorem code_58 (w : World) :
    Calls Tryd.prog 23 #[.int .i64 58] w fun e w' => e = .returned (.tuple #[.int .u32 115, .int .u32 6, .int .u32 0]) ∧ Grown w w' := by
  have hc : clsI 58 = 9 := by decide +kernel
  go_enter Tryd.func23, Tryd.ntmps23
  go_wp2_with (go_at_call 24; refine (rclass_any _ _).mono ?_; rintro e w' ⟨rfl, rfl⟩)
  all_goals (try (go_region; go_wp2))
  refine bodyPost_ret (results_tmp3 (t := 2) (u := 3) (v := 4) rfl _ _ _) rfl ⟨rfl, ?_⟩
  repeat (first | exact Grown.refl _ | apply Grown.drew | apply Grown.alloc)
set_option maxRecDepth 100000 in
set_option maxHeartbeats 1000000 in
theorem code_59 (w : World) :
    Calls Tryd.prog 23 #[.int .i64 59] w fun e w' => e = .returned (.tuple #[.int .u32 115, .int .u32 7, .int .u32 0]) ∧ Grown w w' := by
  have hc : clsI 59 = 9 := by decide +kernel
  go_enter Tryd.func23, Tryd.ntmps23
  go_wp2_with (go_at_call 24; refine (rclass_any _ _).mono ?_; rintro e w' ⟨rfl, rfl⟩)
  all_goals (try (go_region; go_wp2))
  refine bodyPost_ret (results_tmp3 (t := 2) (u := 3) (v := 4) rfl _ _ _) rfl ⟨rfl, ?_⟩
  repeat (first | exact Grown.refl _ | apply Grown.drew | apply Grown.alloc)
set_option maxRecDepth 100000 in
set_option maxHeartbeats 1000000 in
theorem code_60 (w : World) :
    Calls Tryd.prog 23 #[.int .i64 60] w fun e w' => e = .returned (.tuple #[.int .u32 0, .int .u32 0, .int .u32 0]) ∧ Grown w w' := by
  have hc : clsI 60 = 10 := by decide +kernel
  go_enter Tryd.func23, Tryd.ntmps23
  go_wp2_with (go_at_call 24; refine (rclass_any _ _).mono ?_; rintro e w' ⟨rfl, rfl⟩)
  all_goals (try (go_region; go_wp2))
  refine bodyPost_ret (results_tmp3 (t := 2) (u := 3) (v := 4) rfl _ _ _) rfl ⟨rfl, ?_⟩
  repeat (first | exact Grown.refl _ | apply Grown.drew | apply Grown.alloc)
set_option maxRecDepth 100000 in
set_option maxHeartbeats 1000000 in
theorem code_61 (w : World) :
    Calls Tryd.prog 23 #[.int .i64 61] w fun e w' => e = .returned (.tuple #[.int .u32 0, .int .u32 0, .int .u32 0]) ∧ Grown w w' := by
  have hc : clsI 61 = 10 := by decide +kernel
  go_enter Tryd.func23, Tryd.ntmps23
  go_wp2_with (go_at_call 24; refine (rclass_any _ _).mono ?_; rintro e w' ⟨rfl, rfl⟩)
  all_goals (try (go_region; go_wp2))
  refine bodyPost_ret (results_tmp3 (t := 2) (u := 3) (v := 4) rfl _ _ _) rfl ⟨rfl, ?_⟩
  repeat (first | exact Grown.refl _ | apply Grown.drew | apply Grown.alloc)
set_option maxRecDepth 100000 in
set_option maxHeartbeats 1000000 in
theorem code_62 (w : World) :
    Calls Tryd.prog 23 #[.int .i64 62] w fun e w' => e = .returned (.tuple #[.int .u32 0, .int .u32 0, .int .u32 0]) ∧ Grown w w' := by
  have hc : clsI 62 = 10 := by decide +kernel
  go_enter Tryd.func23, Tryd.ntmps23
  go_wp2_with (go_at_call 24; refine (rclass_any _ _).mono ?_; rintro e w' ⟨rfl, rfl⟩)
  all_goals (try (go_region; go_wp2))
  refine bodyPost_ret (results_tmp3 (t := 2) (u := 3) (v := 4) rfl _ _ _) rfl ⟨rfl, ?_⟩
  repeat (first | exact Grown.refl _ | apply Grown.drew | apply Grown.alloc)
set_option maxRecDepth 100000 in
set_option maxHeartbeats 1000000 in
theorem code_63 (w : World) :
    Calls Tryd.prog 23 #[.int .i64 63] w fun e w' => e = .returned (.tuple #[.int .u32 115, .int .u32 0, .int .u32 9]) ∧ Grown w w' := by
  have hc : clsI 63 = 11 := by decide +kernel
  go_enter Tryd.func23, Tryd.ntmps23
  go_wp2_with (go_at_call 24; refine (rclass_any _ _).mono ?_; rintro e w' ⟨rfl, rfl⟩)
  all_goals (try (go_region; go_wp2))
  refine bodyPost_ret (results_tmp3 (t := 2) (u := 3) (v := 4) rfl _ _ _) rfl ⟨rfl, ?_⟩
  repeat (first | exact Grown.refl _ | apply Grown.drew | apply Grown.alloc)
set_option maxRecDepth 100000 in
set_option maxHeartbeats 1000000 in
theorem code_64 (w : World) :
    Calls Tryd.prog 23 #[.int .i64 64] w fun e w' => e = .returned (.tuple #[.int .u32 115, .int .u32 0, .int .u32 17]) ∧ Grown w w' := by
  have hc : clsI 64 = 11 := by decide +kernel
  go_enter Tryd.func23, Tryd.ntmps23
  go_wp2_with (go_at_call 24; refine (rclass_any _ _).mono ?_; rintro e w' ⟨rfl, rfl⟩)
  all_goals (try (go_region; go_wp2))
  refine bodyPost_ret (results_tmp3 (t := 2) (u := 3) (v := 4) rfl _ _ _) rfl ⟨rfl, ?_⟩
  repeat (first | exact Grown.refl _ | apply Grown.drew | apply Grown.alloc)
set_option maxRecDepth 100000 in
set_option maxHeartbeats 1000000 in
theorem code_65 (w : World) :
    Calls Tryd.prog 23 #[.int .i64 65] w fun e w' => e = .returned (.tuple #[.int .u32 115, .int .u32 0, .int .u32 49]) ∧ Grown w w' := by
  have hc : clsI 65 = 11 := by decide +kernel
  go_enter Tryd.func23, Tryd.ntmps23
  go_wp2_with (go_at_call 24; refine (rclass_any _ _).mono ?_; rintro e w' ⟨rfl, rfl⟩)
  all_goals (try (go_region; go_wp2))
  refine bodyPost_ret (results_tmp3 (t := 2) (u := 3) (v := 4) rfl _ _ _) rfl ⟨rfl, ?_⟩
  repeat (first | exact Grown.refl _ | apply Grown.drew | apply Grown.alloc)
set_option maxRecDepth 100000 in
set_option maxHeartbeats 1000000 in
theorem code_66 (w : World) :
    Calls Tryd.prog 23 #[.int .i64 66] w fun e w' => e = .returned (.tuple #[.int .u32 115, .int .u32 4, .int .u32 52]) ∧ Grown w w' := by
  have hc : clsI 66 = 12 := by decide +kernel
  go_enter Tryd.func23, Tryd.ntmps23
  go_wp2_with (go_at_call 24; refine (rclass_any _ _).mono ?_; rintro e w' ⟨rfl, rfl⟩)
  all_goals (try (go_region; go_wp2))
  refine bodyPost_ret (results_tmp3 (t := 2) (u := 3) (v := 4) rfl _ _ _) rfl ⟨rfl, ?_⟩
  repeat (first | exact Grown.refl _ | apply Grown.drew | apply Grown.alloc)
set_option maxRecDepth 100000 in
set_option maxHeartbeats 1000000 in
theorem code_67 (w : World) :
    Calls Tryd.prog 23 #[.int .i64 67] w fun e w' => e = .returned (.tuple #[.int .u32 115, .int .u32 4, .int .u32 54]) ∧ Grown w w' := by
  have hc : clsI 67 = 12 := by decide +kernel
  go_enter Tryd.func23, Tryd.ntmps23
  go_wp2_with (go_at_call 24; refine (rclass_any _ _).mono ?_; rintro e w' ⟨rfl, rfl⟩)
  all_goals (try (go_region; go_wp2))
  refine bodyPost_ret (results_tmp3 (t := 2) (u := 3) (v := 4) rfl _ _ _) rfl ⟨rfl, ?_⟩
  repeat (first | exact Grown.refl _ | apply Grown.drew | apply Grown.alloc)
set_option maxRecDepth 100000 in
set_option maxHeartbeats 1000000 in
theorem code_68 (w : World) :
    Calls Tryd.prog 23 #[.int .i64 68] w fun e w' => e = .returned (.tuple #[.int .u32 115, .int .u32 4, .int .u32 52]) ∧ Grown w w' := by
  have hc : clsI 68 = 12 := by decide +kernel
  go_enter Tryd.func23, Tryd.ntmps23
  go_wp2_with (go_at_call 24; refine (rclass_any _ _).mono ?_; rintro e w' ⟨rfl, rfl⟩)
  all_goals (try (go_region; go_wp2))
  refine bodyPost_ret (results_tmp3 (t := 2) (u := 3) (v := 4) rfl _ _ _) rfl ⟨rfl, ?_⟩
  repeat (first | exact Grown.refl _ | apply Grown.drew | apply Grown.alloc)
set_option maxRecDepth 100000 in
set_option maxHeartbeats 1000000 in
theorem code_69 (w : World) :
    Calls Tryd.prog 23 #[.int .i64 69] w fun e w' => e = .returned (.tuple #[.int .u32 115, .int .u32 4, .int .u32 55]) ∧ Grown w w' := by
  have hc : clsI 69 = 12 := by decide +kernel
  go_enter Tryd.func23, Tryd.ntmps23
  go_wp2_with (go_at_call 24; refine (rclass_any _ _).mono ?_; rintro e w' ⟨rfl, rfl⟩)
  all_goals (try (go_region; go_wp2))
  refine bodyPost_ret (results_tmp3 (t := 2) (u := 3) (v := 4) rfl _ _ _) rfl ⟨rfl, ?_⟩
  repeat (first | exact Grown.refl _ | apply Grown.drew | apply Grown.alloc)
end Go.Proofs.YtdogjmimjjmmaaaDoor
