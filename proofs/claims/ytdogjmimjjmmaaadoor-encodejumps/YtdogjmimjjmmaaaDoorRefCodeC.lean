/-
  The codes of the operations, as the document's words have them (the reference of layers 3 and 4): walked, operation by operation.
-/
import Derived.Test.YtdogjmimjjmmaaaDoorRefIs
import Derived.OwnWalk
import Derived.Deep.WholeRow
namespace Go.Proofs.YtdogjmimjjmmaaaDoor
open Go.RowKit
theorem wpList_build_at {P : Program} {ops : Array Oper} {rest : List Oper} {o : Oper} {a : Act} {w : World} {Q : Exit → Act → World → Prop} (hg : o.guard = none) (t : TypeId) (parts : Array (Nat × Operand)) (ho : o.op = .build t parts)
    (cells : Array Value) (hf : P.built t (parts.map fun (i, x) => (i, a.eval x)).toList = some cells)
    (h : wpList P ops Q rest (a.put o.dst (.agg cells)) w) : wpList P ops Q (o :: rest) a w :=
  wpList_build hg t parts ho (by rw [hf]; rfl) (by rw [hf]; exact h)
def twosA : Array Value := #[.int .u32 0, .int .u32 0, .int .u32 0, .int .u32 32, .int .u32 1, .int .u32 0, .int .u32 2, .int .u32 0, .int .u32 3, .int .u32 0, .int .u32 4, .int .u32 0, .int .u32 5, .int .u32 0, .int .u32 5, .int .u32 32, .int .u32 6, .int .u32 0, .int .u32 7, .int .u32 0]
def twosZ : Array Value := Array.replicate 20 (.int .u32 0)
theorem infoTwos : (Tryd.prog.info? 81).map (fun i => (i.zero, i.size)) = some (some (.agg twosZ), 20) := by kernel_rfl
theorem zeroTwos (w : World) : (zeroValue 81).run Tryd.prog w = .ok (.agg twosZ) w := (zero_of_info infoTwos).1 w
theorem sizeTwos : (Tryd.prog.info? 81).map (·.size) = some twosA.size := (zero_of_info infoTwos).2
theorem sameTwos : twosZ.size = twosA.size := by rfl
theorem onesTwos : twosA.all (·.oneCell') = true := by kernel_rfl
set_option maxRecDepth 100000 in
set_option maxHeartbeats 1000000 in
theorem code_35 (w : World) :
    Calls Tryd.prog 23 #[.int .i64 35] w fun e w' => e = .returned (.tuple #[.int .u32 51, .int .u32 0, .int .u32 0]) ∧ Grown w w' := by
  have hc : clsI 35 = 6 := by decide +kernel
  have hz := zeroTwos
  have e1 : twosA[0]? = some (.int .u32 0) := by rfl
  have e2 : twosA[1]? = some (.int .u32 0) := by rfl
  go_enter Tryd.func23, Tryd.ntmps23
  go_wp2_with (first | (go_at_call 24; refine (rclass_any _ _).mono ?_; rintro e w' ⟨rfl, rfl⟩) | refine wpList_build_at rfl 81 _ rfl twosA (by kernel_rfl) ?_ | (refine wpList_store_row rfl 81 _ _ rfl _ twosA rfl rfl 81 twosZ (heap_alloc_last _ _) sizeTwos sameTwos onesTwos ?_; rw [World.setRow_alloc_new]))
  simp only [Act.put]
  go_region
  go_wp2
  refine bodyPost_ret (results_tmp3 (t := 2) (u := 3) (v := 4) rfl _ _ _) rfl ⟨rfl, ?_⟩
  repeat (first | exact Grown.refl _ | apply Grown.drew | apply Grown.alloc)
set_option maxRecDepth 100000 in
set_option maxHeartbeats 1000000 in
theorem code_36 (w : World) :
    Calls Tryd.prog 23 #[.int .i64 36] w fun e w' => e = .returned (.tuple #[.int .u32 51, .int .u32 0, .int .u32 32]) ∧ Grown w w' := by
  have hc : clsI 36 = 6 := by decide +kernel
  have hz := zeroTwos
  have e1 : twosA[2]? = some (.int .u32 0) := by rfl
  have e2 : twosA[3]? = some (.int .u32 32) := by rfl
  go_enter Tryd.func23, Tryd.ntmps23
  go_wp2_with (first | (go_at_call 24; refine (rclass_any _ _).mono ?_; rintro e w' ⟨rfl, rfl⟩) | refine wpList_build_at rfl 81 _ rfl twosA (by kernel_rfl) ?_ | (refine wpList_store_row rfl 81 _ _ rfl _ twosA rfl rfl 81 twosZ (heap_alloc_last _ _) sizeTwos sameTwos onesTwos ?_; rw [World.setRow_alloc_new]))
  simp only [Act.put]
  go_region
  go_wp2
  refine bodyPost_ret (results_tmp3 (t := 2) (u := 3) (v := 4) rfl _ _ _) rfl ⟨rfl, ?_⟩
  repeat (first | exact Grown.refl _ | apply Grown.drew | apply Grown.alloc)
set_option maxRecDepth 100000 in
set_option maxHeartbeats 1000000 in
theorem code_37 (w : World) :
    Calls Tryd.prog 23 #[.int .i64 37] w fun e w' => e = .returned (.tuple #[.int .u32 51, .int .u32 1, .int .u32 0]) ∧ Grown w w' := by
  have hc : clsI 37 = 6 := by decide +kernel
  have hz := zeroTwos
  have e1 : twosA[4]? = some (.int .u32 1) := by rfl
  have e2 : twosA[5]? = some (.int .u32 0) := by rfl
  go_enter Tryd.func23, Tryd.ntmps23
  go_wp2_with (first | (go_at_call 24; refine (rclass_any _ _).mono ?_; rintro e w' ⟨rfl, rfl⟩) | refine wpList_build_at rfl 81 _ rfl twosA (by kernel_rfl) ?_ | (refine wpList_store_row rfl 81 _ _ rfl _ twosA rfl rfl 81 twosZ (heap_alloc_last _ _) sizeTwos sameTwos onesTwos ?_; rw [World.setRow_alloc_new]))
  simp only [Act.put]
  go_region
  go_wp2
  refine bodyPost_ret (results_tmp3 (t := 2) (u := 3) (v := 4) rfl _ _ _) rfl ⟨rfl, ?_⟩
  repeat (first | exact Grown.refl _ | apply Grown.drew | apply Grown.alloc)
set_option maxRecDepth 100000 in
set_option maxHeartbeats 1000000 in
theorem code_38 (w : World) :
    Calls Tryd.prog 23 #[.int .i64 38] w fun e w' => e = .returned (.tuple #[.int .u32 51, .int .u32 2, .int .u32 0]) ∧ Grown w w' := by
  have hc : clsI 38 = 6 := by decide +kernel
  have hz := zeroTwos
  have e1 : twosA[6]? = some (.int .u32 2) := by rfl
  have e2 : twosA[7]? = some (.int .u32 0) := by rfl
  go_enter Tryd.func23, Tryd.ntmps23
  go_wp2_with (first | (go_at_call 24; refine (rclass_any _ _).mono ?_; rintro e w' ⟨rfl, rfl⟩) | refine wpList_build_at rfl 81 _ rfl twosA (by kernel_rfl) ?_ | (refine wpList_store_row rfl 81 _ _ rfl _ twosA rfl rfl 81 twosZ (heap_alloc_last _ _) sizeTwos sameTwos onesTwos ?_; rw [World.setRow_alloc_new]))
  simp only [Act.put]
  go_region
  go_wp2
  refine bodyPost_ret (results_tmp3 (t := 2) (u := 3) (v := 4) rfl _ _ _) rfl ⟨rfl, ?_⟩
  repeat (first | exact Grown.refl _ | apply Grown.drew | apply Grown.alloc)
set_option maxRecDepth 100000 in
set_option maxHeartbeats 1000000 in
theorem code_39 (w : World) :
    Calls Tryd.prog 23 #[.int .i64 39] w fun e w' => e = .returned (.tuple #[.int .u32 51, .int .u32 3, .int .u32 0]) ∧ Grown w w' := by
  have hc : clsI 39 = 6 := by decide +kernel
  have hz := zeroTwos
  have e1 : twosA[8]? = some (.int .u32 3) := by rfl
  have e2 : twosA[9]? = some (.int .u32 0) := by rfl
  go_enter Tryd.func23, Tryd.ntmps23
  go_wp2_with (first | (go_at_call 24; refine (rclass_any _ _).mono ?_; rintro e w' ⟨rfl, rfl⟩) | refine wpList_build_at rfl 81 _ rfl twosA (by kernel_rfl) ?_ | (refine wpList_store_row rfl 81 _ _ rfl _ twosA rfl rfl 81 twosZ (heap_alloc_last _ _) sizeTwos sameTwos onesTwos ?_; rw [World.setRow_alloc_new]))
  simp only [Act.put]
  go_region
  go_wp2
  refine bodyPost_ret (results_tmp3 (t := 2) (u := 3) (v := 4) rfl _ _ _) rfl ⟨rfl, ?_⟩
  repeat (first | exact Grown.refl _ | apply Grown.drew | apply Grown.alloc)
set_option maxRecDepth 100000 in
set_option maxHeartbeats 1000000 in
theorem code_40 (w : World) :
    Calls Tryd.prog 23 #[.int .i64 40] w fun e w' => e = .returned (.tuple #[.int .u32 51, .int .u32 4, .int .u32 0]) ∧ Grown w w' := by
  have hc : clsI 40 = 6 := by decide +kernel
  have hz := zeroTwos
  have e1 : twosA[10]? = some (.int .u32 4) := by rfl
  have e2 : twosA[11]? = some (.int .u32 0) := by rfl
  go_enter Tryd.func23, Tryd.ntmps23
  go_wp2_with (first | (go_at_call 24; refine (rclass_any _ _).mono ?_; rintro e w' ⟨rfl, rfl⟩) | refine wpList_build_at rfl 81 _ rfl twosA (by kernel_rfl) ?_ | (refine wpList_store_row rfl 81 _ _ rfl _ twosA rfl rfl 81 twosZ (heap_alloc_last _ _) sizeTwos sameTwos onesTwos ?_; rw [World.setRow_alloc_new]))
  simp only [Act.put]
  go_region
  go_wp2
  refine bodyPost_ret (results_tmp3 (t := 2) (u := 3) (v := 4) rfl _ _ _) rfl ⟨rfl, ?_⟩
  repeat (first | exact Grown.refl _ | apply Grown.drew | apply Grown.alloc)
set_option maxRecDepth 100000 in
set_option maxHeartbeats 1000000 in
theorem code_41 (w : World) :
    Calls Tryd.prog 23 #[.int .i64 41] w fun e w' => e = .returned (.tuple #[.int .u32 51, .int .u32 5, .int .u32 0]) ∧ Grown w w' := by
  have hc : clsI 41 = 6 := by decide +kernel
  have hz := zeroTwos
  have e1 : twosA[12]? = some (.int .u32 5) := by rfl
  have e2 : twosA[13]? = some (.int .u32 0) := by rfl
  go_enter Tryd.func23, Tryd.ntmps23
  go_wp2_with (first | (go_at_call 24; refine (rclass_any _ _).mono ?_; rintro e w' ⟨rfl, rfl⟩) | refine wpList_build_at rfl 81 _ rfl twosA (by kernel_rfl) ?_ | (refine wpList_store_row rfl 81 _ _ rfl _ twosA rfl rfl 81 twosZ (heap_alloc_last _ _) sizeTwos sameTwos onesTwos ?_; rw [World.setRow_alloc_new]))
  simp only [Act.put]
  go_region
  go_wp2
  refine bodyPost_ret (results_tmp3 (t := 2) (u := 3) (v := 4) rfl _ _ _) rfl ⟨rfl, ?_⟩
  repeat (first | exact Grown.refl _ | apply Grown.drew | apply Grown.alloc)
set_option maxRecDepth 100000 in
set_option maxHeartbeats 1000000 in
theorem code_42 (w : World) :
    Calls Tryd.prog 23 #[.int .i64 42] w fun e w' => e = .returned (.tuple #[.int .u32 51, .int .u32 5, .int .u32 32]) ∧ Grown w w' := by
  have hc : clsI 42 = 6 := by decide +kernel
  have hz := zeroTwos
  have e1 : twosA[14]? = some (.int .u32 5) := by rfl
  have e2 : twosA[15]? = some (.int .u32 32) := by rfl
  go_enter Tryd.func23, Tryd.ntmps23
  go_wp2_with (first | (go_at_call 24; refine (rclass_any _ _).mono ?_; rintro e w' ⟨rfl, rfl⟩) | refine wpList_build_at rfl 81 _ rfl twosA (by kernel_rfl) ?_ | (refine wpList_store_row rfl 81 _ _ rfl _ twosA rfl rfl 81 twosZ (heap_alloc_last _ _) sizeTwos sameTwos onesTwos ?_; rw [World.setRow_alloc_new]))
  simp only [Act.put]
  go_region
  go_wp2
  refine bodyPost_ret (results_tmp3 (t := 2) (u := 3) (v := 4) rfl _ _ _) rfl ⟨rfl, ?_⟩
  repeat (first | exact Grown.refl _ | apply Grown.drew | apply Grown.alloc)
set_option maxRecDepth 100000 in
set_option maxHeartbeats 1000000 in
theorem code_43 (w : World) :
    Calls Tryd.prog 23 #[.int .i64 43] w fun e w' => e = .returned (.tuple #[.int .u32 51, .int .u32 6, .int .u32 0]) ∧ Grown w w' := by
  have hc : clsI 43 = 6 := by decide +kernel
  have hz := zeroTwos
  have e1 : twosA[16]? = some (.int .u32 6) := by rfl
  have e2 : twosA[17]? = some (.int .u32 0) := by rfl
  go_enter Tryd.func23, Tryd.ntmps23
  go_wp2_with (first | (go_at_call 24; refine (rclass_any _ _).mono ?_; rintro e w' ⟨rfl, rfl⟩) | refine wpList_build_at rfl 81 _ rfl twosA (by kernel_rfl) ?_ | (refine wpList_store_row rfl 81 _ _ rfl _ twosA rfl rfl 81 twosZ (heap_alloc_last _ _) sizeTwos sameTwos onesTwos ?_; rw [World.setRow_alloc_new]))
  simp only [Act.put]
  go_region
  go_wp2
  refine bodyPost_ret (results_tmp3 (t := 2) (u := 3) (v := 4) rfl _ _ _) rfl ⟨rfl, ?_⟩
  repeat (first | exact Grown.refl _ | apply Grown.drew | apply Grown.alloc)
set_option maxRecDepth 100000 in
set_option maxHeartbeats 1000000 in
theorem code_44 (w : World) :
    Calls Tryd.prog 23 #[.int .i64 44] w fun e w' => e = .returned (.tuple #[.int .u32 51, .int .u32 7, .int .u32 0]) ∧ Grown w w' := by
  have hc : clsI 44 = 6 := by decide +kernel
  have hz := zeroTwos
  have e1 : twosA[18]? = some (.int .u32 7) := by rfl
  have e2 : twosA[19]? = some (.int .u32 0) := by rfl
  go_enter Tryd.func23, Tryd.ntmps23
  go_wp2_with (first | (go_at_call 24; refine (rclass_any _ _).mono ?_; rintro e w' ⟨rfl, rfl⟩) | refine wpList_build_at rfl 81 _ rfl twosA (by kernel_rfl) ?_ | (refine wpList_store_row rfl 81 _ _ rfl _ twosA rfl rfl 81 twosZ (heap_alloc_last _ _) sizeTwos sameTwos onesTwos ?_; rw [World.setRow_alloc_new]))
  simp only [Act.put]
  go_region
  go_wp2
  refine bodyPost_ret (results_tmp3 (t := 2) (u := 3) (v := 4) rfl _ _ _) rfl ⟨rfl, ?_⟩
  repeat (first | exact Grown.refl _ | apply Grown.drew | apply Grown.alloc)
end Go.Proofs.YtdogjmimjjmmaaaDoor
