/-
  What package insn's calls answer: walked whole, for every argument, where the listed table's cells stand.
-/
import Derived.Test.YtgkcmfbkloeohaaDoorIsIn
namespace Go.Proofs.YtgkcmfbkloeohaaDoor
open Go.RowKit
/-- The listed table's cells stand. -/
def Tab (w : World) : Prop := TabI w
theorem Tab.grown {a b : World} (h : Tab a) (g : Grown a b) : Tab b := TabI.grown h g
theorem class_any (op : Int) (w : World) (hT : Tab w) :
    Calls Tryd.prog 18 #[.int .i64 op] w fun e w' => e = .returned (.int .i64 (clsI op)) ∧ Grown w w' := class_in op w hT
theorem is_any (op rd rs1 rs2 imm csr : Int) (w : World) (hT : Tab w) :
    Calls Tryd.prog 11 #[.agg #[.int .i64 op, .int .i64 rd, .int .i64 rs1, .int .i64 rs2, .int .i64 imm, .int .i64 csr]] w fun e w' => e = .returned (.bool (isB op rd rs1 rs2 imm csr)) ∧ Grown w w' := is_in op rd rs1 rs2 imm csr w hT
theorem sizes_any (op : Int) (w : World) (_hT : Tab w) :
    Calls Tryd.prog 20 #[.int .i64 op] w fun e w' => e = .returned (.int .i64 (szI op)) ∧ Grown w w' := by
  go_enter Tryd.func20, Tryd.ntmps20
  go_wp2_with (go_at_call 30; refine (size_any _ _).mono ?_; rintro e w' ⟨rfl, rfl⟩)
  go_ret
  exact ⟨rfl, Grown.refl _⟩
set_option maxRecDepth 100000 in
set_option maxHeartbeats 4000000 in
theorem names_any (w : World) :
    Calls Tryd.prog 33 #[] w fun e w' => e = .returned (.agg nmA) ∧ Grown w w' := by
  have hz := zero46
  go_enter Tryd.func33, Tryd.ntmps33
  go_wp2_with (first | refine wpList_build_to rfl 44 _ rfl nmA (by kernel_rfl) ?_ | (refine wpList_store_row rfl 44 _ _ rfl _ nmA rfl rfl 44 zsA (heap_alloc_last _ _) size46 same46 ones46 ?_; rw [World.setRow_alloc_new]))
  refine bodyPost_ret ?_ rfl ⟨rfl, (Grown.refl w).alloc nmA 44⟩
  exact results_cell_row rfl _ _ w.heap.size 44 nmA (0, 0) _ rfl (heap_alloc_last _ _) Tryd.underlying44 rfl size46
theorem idx46 {op : Int} (h0 : 0 ≤ op) (h1 : op < 70) (w : World) : (Instr.index 44 (.agg nmA) (.int .i64 op)).run Tryd.prog w = .ok (.string (nameS op)) w := by
  have hn := nm_at h0 h1
  simp [Instr.index, go_sem, hn]
  intro h
  exact absurd (h h0) (by omega)
set_option maxRecDepth 100000 in
set_option maxHeartbeats 1000000 in
theorem nameOf_any (op : Int) (w : World) :
    Calls Tryd.prog 29 #[.int .i64 op] w fun e w' => e = .returned (.string (nameS op)) ∧ Grown w w' := by
  by_cases h : op < 0 ∨ 70 ≤ op
  · have hb : belowB op 70 = false := by unfold belowB; simp; omega
    rw [name_out h]
    go_enter Tryd.func29, Tryd.ntmps29
    go_wp2_with (go_at_call 31; refine (below_any _ _ _).mono ?_; rintro e w' ⟨rfl, rfl⟩)
    go_ret
    exact ⟨rfl, Grown.refl _⟩
  · have h0 : 0 ≤ op := by omega
    have h1 : op < 70 := by omega
    have hb : belowB op 70 = true := by unfold belowB; simp; omega
    have hn := idx46 h0 h1
    go_enter Tryd.func29, Tryd.ntmps29
    go_wp2_with (first | (go_at_call 31; refine (below_any _ _ _).mono ?_; rintro e w' ⟨rfl, rfl⟩) | (go_at_call 33; refine (names_any _).mono ?_; rintro e w' ⟨rfl, hg⟩))
    go_ret
    exact ⟨rfl, hg⟩
theorem name_any (op : Int) (w : World) (_hT : Tab w) :
    Calls Tryd.prog 16 #[.int .i64 op] w fun e w' => e = .returned (.string (nameS op)) ∧ Grown w w' := by
  go_enter Tryd.func16, Tryd.ntmps16
  go_wp2_with (go_at_call 29; refine (nameOf_any _ _).mono ?_; rintro e w' ⟨rfl, hg⟩)
  go_ret
  exact ⟨rfl, hg⟩
set_option maxHeartbeats 400000 in
theorem writes_any (op rd rs1 rs2 imm csr : Int) (w : World) (hT : Tab w) :
    Calls Tryd.prog 14 #[.agg #[.int .i64 op, .int .i64 rd, .int .i64 rs1, .int .i64 rs2, .int .i64 imm, .int .i64 csr]] w fun e w' => e = .returned (.int .i64 (orZ (isB op rd rs1 rs2 imm csr) rd)) ∧ Grown w w' := by
  have hT1 := hT.grown ((Grown.refl w).alloc #[.int .i64 op, .int .i64 rd, .int .i64 rs1, .int .i64 rs2, .int .i64 imm, .int .i64 csr] 23)
  cases h : isB op rd rs1 rs2 imm csr
  all_goals
    go_enter Tryd.func14, Tryd.ntmps14
    go_wp2_with (go_at_call 11; refine (is_any _ _ _ _ _ _ _ hT1).mono ?_; rintro e w' ⟨rfl, hg⟩; obtain ⟨c0, c1, c2, c3, c4, c5⟩ := (Six.new _ _ _ _ _ _ _ _).grown hg)
  all_goals
    go_ret
    exact ⟨rfl, Grown.trans' ((Grown.refl _).alloc _ _) hg⟩
set_option maxHeartbeats 400000 in
theorem reads_any (op rd rs1 rs2 imm csr : Int) (w : World) (hT : Tab w) :
    Calls Tryd.prog 9 #[.agg #[.int .i64 op, .int .i64 rd, .int .i64 rs1, .int .i64 rs2, .int .i64 imm, .int .i64 csr]] w
      fun e w' => e = .returned (.tuple #[.int .i64 (orZ (isB op rd rs1 rs2 imm csr) rs1), .int .i64 (orZ (isB op rd rs1 rs2 imm csr) rs2)]) ∧ Grown w w' := by
  have hT1 := hT.grown ((Grown.refl w).alloc #[.int .i64 op, .int .i64 rd, .int .i64 rs1, .int .i64 rs2, .int .i64 imm, .int .i64 csr] 23)
  cases h : isB op rd rs1 rs2 imm csr
  all_goals
    go_enter Tryd.func9, Tryd.ntmps9
    go_wp2_with (go_at_call 11; refine (is_any _ _ _ _ _ _ _ hT1).mono ?_; rintro e w' ⟨rfl, hg⟩; obtain ⟨c0, c1, c2, c3, c4, c5⟩ := (Six.new _ _ _ _ _ _ _ _).grown hg)
  · go_ret2
    exact ⟨rfl, Grown.trans' ((Grown.refl _).alloc _ _) hg⟩
  · go_region
    go_wp2
    go_ret2
    exact ⟨rfl, (Grown.trans' ((Grown.refl _).alloc _ _) hg).drew⟩
end Go.Proofs.YtgkcmfbkloeohaaDoor
