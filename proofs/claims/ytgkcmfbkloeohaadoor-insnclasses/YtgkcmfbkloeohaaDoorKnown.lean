/-
  The examples that every statement of layer 2 asks first (known) hold: each is reckoned, and the call comes back with true.
-/
import Derived.Test.YtgkcmfbkloeohaaDoorFace
namespace Go.Proofs.YtgkcmfbkloeohaaDoor
open Go.RowKit
theorem is_from {W : World} (hT : Tab W) {w : World} (hg : Grown W w) (op rd rs1 rs2 imm csr : Int) :
    Calls Tryd.prog 11 #[.agg #[.int .i64 op, .int .i64 rd, .int .i64 rs1, .int .i64 rs2, .int .i64 imm, .int .i64 csr]] w fun e w' => e = .returned (.bool (isB op rd rs1 rs2 imm csr)) ∧ Grown W w' :=
  (is_any op rd rs1 rs2 imm csr w (hT.grown hg)).mono fun _ _ h => ⟨h.1, Grown.trans' hg h.2⟩
theorem class_from {W : World} (hT : Tab W) {w : World} (hg : Grown W w) (op : Int) :
    Calls Tryd.prog 18 #[.int .i64 op] w fun e w' => e = .returned (.int .i64 (clsI op)) ∧ Grown W w' :=
  (class_any op w (hT.grown hg)).mono fun _ _ h => ⟨h.1, Grown.trans' hg h.2⟩
theorem sizes_from {W : World} (hT : Tab W) {w : World} (hg : Grown W w) (op : Int) :
    Calls Tryd.prog 20 #[.int .i64 op] w fun e w' => e = .returned (.int .i64 (szI op)) ∧ Grown W w' :=
  (sizes_any op w (hT.grown hg)).mono fun _ _ h => ⟨h.1, Grown.trans' hg h.2⟩
theorem name_from {W : World} (hT : Tab W) {w : World} (hg : Grown W w) (op : Int) :
    Calls Tryd.prog 16 #[.int .i64 op] w fun e w' => e = .returned (.string (nameS op)) ∧ Grown W w' :=
  (name_any op w (hT.grown hg)).mono fun _ _ h => ⟨h.1, Grown.trans' hg h.2⟩
theorem writes_from {W : World} (hT : Tab W) {w : World} (hg : Grown W w) (op rd rs1 rs2 imm csr : Int) :
    Calls Tryd.prog 14 #[.agg #[.int .i64 op, .int .i64 rd, .int .i64 rs1, .int .i64 rs2, .int .i64 imm, .int .i64 csr]] w fun e w' => e = .returned (.int .i64 (orZ (isB op rd rs1 rs2 imm csr) rd)) ∧ Grown W w' :=
  (writes_any op rd rs1 rs2 imm csr w (hT.grown hg)).mono fun _ _ h => ⟨h.1, Grown.trans' hg h.2⟩
theorem reads_from {W : World} (hT : Tab W) {w : World} (hg : Grown W w) (op rd rs1 rs2 imm csr : Int) :
    Calls Tryd.prog 9 #[.agg #[.int .i64 op, .int .i64 rd, .int .i64 rs1, .int .i64 rs2, .int .i64 imm, .int .i64 csr]] w fun e w' => e = .returned (.tuple #[.int .i64 (orZ (isB op rd rs1 rs2 imm csr) rs1), .int .i64 (orZ (isB op rd rs1 rs2 imm csr) rs2)]) ∧ Grown W w' :=
  (reads_any op rd rs1 rs2 imm csr w (hT.grown hg)).mono fun _ _ h => ⟨h.1, Grown.trans' hg h.2⟩
theorem same_from {W w : World} (hg : Grown W w) (op rd rs1 rs2 imm csr op' rd' rs1' rs2' imm' csr' : Int) :
    Calls Tryd.prog 13 #[.agg #[.int .i64 op, .int .i64 rd, .int .i64 rs1, .int .i64 rs2, .int .i64 imm, .int .i64 csr], .agg #[.int .i64 op', .int .i64 rd', .int .i64 rs1', .int .i64 rs2', .int .i64 imm', .int .i64 csr']] w fun e w' => e = .returned (.bool (sameB op rd rs1 rs2 imm csr op' rd' rs1' rs2' imm' csr')) ∧ Grown W w' :=
  (same_any op rd rs1 rs2 imm csr op' rd' rs1' rs2' imm' csr' w).mono fun _ _ h => ⟨h.1, Grown.trans' hg h.2⟩
theorem k1 : isB 22 1 0 0 (-5) 0 = true := by decide +kernel
theorem k2 : isB 22 0 0 0 2048 0 = false := by decide +kernel
theorem k3 : isB 0 0 0 0 0 0 = false := by decide +kernel
theorem k4 : ((nameS 51).toList == [102, 101, 110, 99, 101, 46, 105]) = true := by decide +kernel
theorem k5 : (clsI 69 == 12) = true := by decide +kernel
theorem k6 : (szI 17 == 4) = true := by decide +kernel
theorem k7 : isB 21 0 2 3 0 0 = true := by decide +kernel
theorem k8 : sameB 22 1 0 0 (-5) 0 22 1 0 0 (-5) 0 = true := by decide +kernel
set_option maxHeartbeats 2000000 in
theorem known_any (w : World) (hT : Tab w) :
    Calls Tryd.prog 8 #[] w fun e w' => e = .returned (.bool true) ∧ Grown w w' := by
  have ht : ∀ n, orZ true n = n := fun _ => rfl
  have hf : ∀ n, orZ false n = 0 := fun _ => rfl
  have h1 := k1
  have h2 := k2
  have h3 := k3
  have h4 := k4
  have h5 := k5
  have h6 := k6
  have h7 := k7
  have h8 := k8
  go_enter Tryd.func8, Tryd.ntmps8
  go_wp2_with fail
  have hT1 := hT.grown ((Grown.refl w).alloc #[.int .i64 22, .int .i64 1, .int .i64 0, .int .i64 0, .int .i64 (-5), .int .i64 0] 23)
  have hg := Grown.refl (w.alloc (.cells #[.int .i64 22, .int .i64 1, .int .i64 0, .int .i64 0, .int .i64 (-5), .int .i64 0] 23))
  refine (reads_from hT1 hg _ _ _ _ _ _).mono ?_
  rintro e w' ⟨rfl, hg⟩
  obtain ⟨c0, c1, c2, c3, c4, c5⟩ := (Six.new _ _ _ _ _ _ _ _).grown hg
  go_wp2_with (first | (go_at_call 11; refine (is_from hT1 hg _ _ _ _ _ _).mono ?_; rintro e w' ⟨rfl, hg⟩; obtain ⟨c0, c1, c2, c3, c4, c5⟩ := (Six.new _ _ _ _ _ _ _ _).grown hg) | (go_at_call 16; refine (name_from hT1 hg _).mono ?_; rintro e w' ⟨rfl, hg⟩; obtain ⟨c0, c1, c2, c3, c4, c5⟩ := (Six.new _ _ _ _ _ _ _ _).grown hg) | (go_at_call 18; refine (class_from hT1 hg _).mono ?_; rintro e w' ⟨rfl, hg⟩; obtain ⟨c0, c1, c2, c3, c4, c5⟩ := (Six.new _ _ _ _ _ _ _ _).grown hg) | (go_at_call 20; refine (sizes_from hT1 hg _).mono ?_; rintro e w' ⟨rfl, hg⟩; obtain ⟨c0, c1, c2, c3, c4, c5⟩ := (Six.new _ _ _ _ _ _ _ _).grown hg) | (go_at_call 14; refine (writes_from hT1 hg _ _ _ _ _ _).mono ?_; rintro e w' ⟨rfl, hg⟩; obtain ⟨c0, c1, c2, c3, c4, c5⟩ := (Six.new _ _ _ _ _ _ _ _).grown hg) | (go_at_call 13; refine (same_from hg _ _ _ _ _ _ _ _ _ _ _ _).mono ?_; rintro e w' ⟨rfl, hg⟩; obtain ⟨c0, c1, c2, c3, c4, c5⟩ := (Six.new _ _ _ _ _ _ _ _).grown hg))
  go_ret
  exact ⟨rfl, Grown.trans' ((Grown.refl _).alloc _ _) hg⟩
theorem known_from {W : World} (hT : Tab W) {w : World} (hg : Grown W w) :
    Calls Tryd.prog 8 #[] w fun e w' => e = .returned (.bool true) ∧ Grown W w' :=
  (known_any w (hT.grown hg)).mono fun _ _ h => ⟨h.1, Grown.trans' hg h.2⟩
end Go.Proofs.YtgkcmfbkloeohaaDoor
