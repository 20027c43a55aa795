/-
  The examples that every statement of layer 8 asks first (known) hold.
-/
import Derived.Test.YtebdokgfcjlplaaDoorTCsr
namespace Go.Proofs.YtebdokgfcjlplaaDoor
open Go.RowKit
def z0 : StM := ⟨fun _ => 0, 0, 0, false, fun _ => 0, 0⟩
theorem z0_ok : z0.Ok := ⟨fun _ _ => by unfold U z0; simp, by unfold U z0; simp, by unfold I64 z0; simp, fun _ _ => by unfold U z0; simp, by unfold U z0; simp⟩
def z1 : StM := wrS z0 768 6146
def z2 : StM := wrS z1 256 0
theorem z1_ok : z1.Ok := z0_ok.write _ _
theorem z2_ok : z2.Ok := z1_ok.write _ _
theorem q1 : okC 768 = true := by decide +kernel
theorem q2 : okC 256 = true := by decide +kernel
theorem q3 : okC 2457 = false := by decide +kernel
theorem q4 : z1.C 0 = 6146 := by decide +kernel
theorem q5 : z2.C 0 = 6144 := by decide +kernel
theorem q6 : idxI 1664 = 21 := by decide +kernel
theorem q7 : numI 15 = 384 := by decide +kernel
theorem q8 : maskI 18 = 1088 := by decide +kernel
theorem q9 : redI 261 = 517 := by decide +kernel
theorem q10 : penI z1 true false = 32 := by decide +kernel
theorem built_zero : Tryd.prog.built 26 [] = some (rowOf 65 (stF z0)) := by kernel_rfl
set_option maxRecDepth 10000 in
set_option maxHeartbeats 1000000 in
theorem known8_any {W w : World} (hT : Tab8 W) (k : Kept W w) :
    Calls Tryd.prog 9 #[] w fun e w' => e = .returned (.bool true) ∧ Kept w w' := by
  go_enter Tryd.func9, Tryd.ntmps9
  go_wp2_with (refine wpList_built rfl 26 _ rfl (rowOf 65 (stF z0)) (by kernel_rfl) ?_)
  refine (cwrite_any (hT.kept k) z0_ok _ _ (by unfold U; omega)).mono ?_
  rintro e w1 ⟨rfl, g1⟩
  rw [show wrS z0 768 6146 = z1 from rfl, q1]
  have h1 := st_new w1 z1
  have g1' := g1.alloc (.cells (rowOf 65 (stF z1)) 26)
  go_wp2_with first | refine wpList_alloc_is rfl 26 rfl (rowOf 65 zF) st_zero ?_ | (refine wpList_store_is rfl 26 _ _ rfl rfl rfl (row_alloc _ 65 zF _) st_size (fun i _ => stF_one _ i) ?_; rw [World.setRow_alloc_new]) | refine wpList_load_row rfl 26 _ rfl rfl h1 _ Tryd.underlying26 rfl st_size ?_
  refine (cwrite_any (hT.kept (k.then g1')) z1_ok _ _ (by unfold U; omega)).mono ?_
  rintro e w2 ⟨rfl, g2⟩
  rw [show wrS z1 256 0 = z2 from rfl, q2]
  have h1b : StAt (w2.alloc (.cells (rowOf 65 (stF z2)) 26)) w1.heap.size z1 := World.rowIs.alloc (h1.kept g2) _
  have h2 := st_new w2 z2
  have g2' := (g1'.then g2).alloc (.cells (rowOf 65 (stF z2)) 26)
  go_wp2_with first | refine wpList_alloc_is rfl 26 rfl (rowOf 65 zF) st_zero ?_ | (refine wpList_store_is rfl 26 _ _ rfl rfl rfl (row_alloc _ 65 zF _) st_size (fun i _ => stF_one _ i) ?_; rw [World.setRow_alloc_new]) | refine wpList_load_row rfl 26 _ rfl rfl h1b _ Tryd.underlying26 rfl st_size ?_
  refine (cread_any (hT.kept (k.then g2')) z1_ok _).mono ?_
  rintro e w3 ⟨rfl, g3⟩
  rw [q3]
  have h1c := h1b.kept g3
  have h2c := h2.kept g3
  have c1 := h1c.c (i := 0) (by omega)
  have c2 := h2c.c (i := 0) (by omega)
  rw [q4] at c1
  rw [q5] at c2
  have k3 := g2'.then g3
  go_wp2_with fail
  refine (cidx_any (hT.kept (k.then k3)) _).mono ?_
  rintro e w4 ⟨rfl, g4⟩
  rw [q6]
  go_wp2_with fail
  refine (cnum_any (hT.kept (k.then (k3.then g4))) _).mono ?_
  rintro e w5 ⟨rfl, g5⟩
  rw [q7]
  go_wp2_with fail
  refine (cmask_any (hT.kept (k.then ((k3.then g4).then g5))) _).mono ?_
  rintro e w6 ⟨rfl, g6⟩
  rw [q8]
  go_wp2_with fail
  refine (cred_any (hT.kept (k.then (((k3.then g4).then g5).then g6))) _).mono ?_
  rintro e w7 ⟨rfl, g7⟩
  rw [q9]
  have k7 := (((k3.then g4).then g5).then g6).then g7
  have h1d := (((h1c.kept g4).kept g5).kept g6).kept g7
  go_wp2_with (refine wpList_load_is (by rfl) 26 _ rfl rfl h1d _ Tryd.underlying26 rfl st_size ?_)
  refine (cpen_any (hT.kept (k.then k7)) z1_ok _ _).mono ?_
  rintro e w8 ⟨rfl, g8⟩
  rw [q10]
  go_wp2
  go_ret
  exact ⟨rfl, k7.then g8⟩
end Go.Proofs.YtebdokgfcjlplaaDoor
