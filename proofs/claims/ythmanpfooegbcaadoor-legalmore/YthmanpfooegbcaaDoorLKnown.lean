/-
  The examples that every statement of layer 9 asks first (known) hold.
-/
import Derived.Test.YthmanpfooegbcaaDoorTFace9
import Derived.Test.YthmanpfooegbcaaDoorCShell
namespace Go.Proofs.YthmanpfooegbcaaDoor
open Go.RowKit
theorem cleanM_cl {S : StM} (h : S.Ok) : (cleanM S).Cl := by
  refine ⟨cleanM_ok h, lvC_ways _, fun e => ?_⟩
  show (S.v && !(lvC S.lvl == 3)) = false
  have e' : lvC S.lvl = 3 := e
  rw [e']
  simp
def y0 : StM := ⟨fun _ => 0, 0, 1, true, fun _ => 0, 0⟩
def y1 : StM := ⟨fun _ => 0, 0, 0, false, fun _ => 0, 0⟩
def y2 : StM := ⟨fun _ => 0, 0, 3, false, fun _ => 0, 0⟩
theorem y0_cl : y0.Cl := ⟨⟨fun _ _ => by unfold U y0; simp, by unfold U y0; simp, by unfold I64 y0; simp, fun _ _ => by unfold U y0; simp, by unfold U y0; simp⟩, by unfold y0; simp, by unfold y0; simp⟩
theorem y1_cl : y1.Cl := ⟨⟨fun _ _ => by unfold U y1; simp, by unfold U y1; simp, by unfold I64 y1; simp, fun _ _ => by unfold U y1; simp, by unfold U y1; simp⟩, by unfold y1; simp, by unfold y1; simp⟩
theorem y2_cl : y2.Cl := ⟨⟨fun _ _ => by unfold U y2; simp, by unfold U y2; simp, by unfold I64 y2; simp, fun _ _ => by unfold U y2; simp, by unfold U y2; simp⟩, by unfold y2; simp, by unfold y2; simp⟩
theorem yq1 : csrC y0 1536 false = 22 := by decide +kernel
theorem yq2 : csrC y0 256 true = 0 := by decide +kernel
theorem yq3 : insC y1 60 0 0 0 0 0 = 2 := by decide +kernel
theorem yq4 : lvlI y0 = 5 := by decide +kernel
theorem yq5 : lvlI y2 = 3 := by decide +kernel
set_option maxRecDepth 10000 in
set_option maxHeartbeats 1000000 in
theorem known9_any {W w : World} (hT : Tab9 W) (k : Kept W w) :
    Calls Tryd.prog 8 #[] w fun e w' => e = .returned (.bool true) ∧ Kept w w' := by
  have h0 := st_new w y0
  have k0 : Kept w (w.alloc (.cells (rowOf 65 (stF y0)) 26)) := (Only.refl _ w).alloc _
  go_enter Tryd.func8, Tryd.ntmps8
  go_wp2_with (first | refine wpList_built rfl 26 _ rfl (rowOf 65 (stF y0)) (by kernel_rfl) ?_ | refine wpList_alloc_is rfl 26 rfl (rowOf 65 zF) st_zero ?_ | (refine wpList_store_is rfl 26 _ _ rfl rfl rfl (row_alloc _ 65 zF _) st_size (fun i _ => stF_one _ i) ?_; rw [World.setRow_alloc_new]) | refine wpList_load_is (by rfl) 26 _ rfl rfl h0 _ Tryd.underlying26 rfl st_size ?_)
  refine (lcsr_any (hT.kept (k.then k0)) y0_cl _ _).mono ?_
  rintro e w1 ⟨rfl, g1⟩
  rw [yq1]
  have h1 := h0.kept g1
  have k1 := k0.then g1
  go_wp2_with (refine wpList_load_is (by rfl) 26 _ rfl rfl h1 _ Tryd.underlying26 rfl st_size ?_)
  refine (lcsr_any (hT.kept (k.then k1)) y0_cl _ _).mono ?_
  rintro e w2 ⟨rfl, g2⟩
  rw [yq2]
  have h2 := h1.kept g2
  have k2 := k1.then g2
  go_wp2_with (refine wpList_built rfl 26 _ rfl (rowOf 65 (stF y1)) (by kernel_rfl) ?_)
  refine (linsn_any (hT.kept (k.then k2)) y1_cl _ _ _ _ _ _).mono ?_
  rintro e w3 ⟨rfl, g3⟩
  rw [yq3]
  have h3 := h2.kept g3
  have k3 := k2.then g3
  go_wp2_with (refine wpList_load_is (by rfl) 26 _ rfl rfl h3 _ Tryd.underlying26 rfl st_size ?_)
  refine (llevel_any (hT.kept (k.then k3)) y0_cl).mono ?_
  rintro e w4 ⟨rfl, g4⟩
  rw [yq4]
  have k4 := k3.then g4
  go_wp2_with (refine wpList_built_is (by rfl) 26 _ rfl (rowOf 65 (stF y2)) (by kernel_rfl) ?_)
  refine (llevel_any (hT.kept (k.then k4)) y2_cl).mono ?_
  rintro e w5 ⟨rfl, g5⟩
  rw [yq5]
  go_wp2
  go_ret
  exact ⟨rfl, k4.then g5⟩
end Go.Proofs.YthmanpfooegbcaaDoor
