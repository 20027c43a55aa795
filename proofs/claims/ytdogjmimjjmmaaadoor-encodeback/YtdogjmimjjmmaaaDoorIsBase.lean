/-
  What package insn's Class answers, and the inner calls of its Is: walked whole, for every argument, where the listed table's cells stand.
-/
import Derived.Test.YtdogjmimjjmmaaaDoorFacts
namespace Go.Proofs.YtdogjmimjjmmaaaDoor
open Go.RowKit
theorem class_in (op : Int) (w : World) (hT : TabI w) :
    Calls Tryd.prog 43 #[.int .i64 op] w fun e w' => e = .returned (.int .i64 (clsI op)) ∧ Grown w w' := by
  have hf : ∀ (a b c d e : Value) (w : World), (Instr.field 66 (.agg #[a, b, c, d, e]) 0).run Tryd.prog w = .ok a w := fun _ _ _ _ _ _ => by kernel_rfl
  rw [← rI_cls op]
  go_enter Tryd.func43, Tryd.ntmps43
  go_wp2_with (go_at_call 35; refine (rule_any _ _ hT).mono ?_; rintro e w' ⟨rfl, hg⟩)
  go_ret
  exact ⟨rfl, hg⟩
theorem kept_from {W w : World} (hg : Grown W w) (op rd rs1 rs2 imm csr : Int) :
    Calls Tryd.prog 36 #[.agg #[.int .i64 op, .int .i64 rd, .int .i64 rs1, .int .i64 rs2, .int .i64 imm, .int .i64 csr], .int .i64 (rI op 1)] w
      fun e w' => e = .returned (.agg #[.int .i64 op, .int .i64 (keptI (hasRd op) rd), .int .i64 (keptI (hasRs1 op) rs1), .int .i64 (keptI (hasRs2 op) rs2), .int .i64 imm, .int .i64 (keptI (hasCsr op) csr)]) ∧ Grown W w' :=
  (kept_any op rd rs1 rs2 imm csr (rI op 1) _ _ _ _ (rI_rd op) (rI_rs1 op) (rI_rs2 op) (rI_csr op) w).mono fun _ _ h => ⟨h.1, Grown.trans' hg h.2⟩
theorem named_from {W w : World} (hg : Grown W w) (op rd rs1 rs2 imm csr : Int) :
    Calls Tryd.prog 37 #[.agg #[.int .i64 op, .int .i64 rd, .int .i64 rs1, .int .i64 rs2, .int .i64 imm, .int .i64 csr]] w fun e w' => e = .returned (.bool (namedB rd rs1 rs2 csr)) ∧ Grown W w' :=
  (named_any op rd rs1 rs2 imm csr w).mono fun _ _ h => ⟨h.1, Grown.trans' hg h.2⟩
theorem allows_from {W w : World} (hg : Grown W w) (op imm : Int) (h : clsI op ≠ 0) :
    Calls Tryd.prog 38 #[.agg #[.int .i64 (rI op 0), .int .i64 (rI op 1), .int .i64 (rI op 2), .int .i64 (rI op 3), .int .i64 (rI op 4)], .int .i64 imm] w fun e w' => e = .returned (.bool (immB op imm)) ∧ Grown W w' := by
  rcases rI_imm op with h0 | ⟨h2, h3, h4, h5⟩
  · rw [rI_cls] at h0
    exact absurd h0 h
  · rw [imm_bounds, ← h2, ← h3, ← h4]
    exact (allows_any _ _ _ _ _ imm h5 w).mono fun _ _ h => ⟨h.1, Grown.trans' hg h.2⟩
theorem eleven {w w2 w' : World} {op rd rs1 rs2 imm csr : Int} (h1 : Grown (w.alloc (.cells #[.int .i64 op, .int .i64 rd, .int .i64 rs1, .int .i64 rs2, .int .i64 imm, .int .i64 csr] 23)) w2) (hg : Grown (w2.alloc (.cells #[.int .i64 (rI op 0), .int .i64 (rI op 1), .int .i64 (rI op 2), .int .i64 (rI op 3), .int .i64 (rI op 4)] 66)) w') :
    w'.cell? ⟨w.heap.size, 0, none⟩ = some (.int .i64 op) ∧ w'.cell? ⟨w.heap.size, 1, none⟩ = some (.int .i64 rd) ∧ w'.cell? ⟨w.heap.size, 2, none⟩ = some (.int .i64 rs1) ∧ w'.cell? ⟨w.heap.size, 3, none⟩ = some (.int .i64 rs2) ∧ w'.cell? ⟨w.heap.size, 4, none⟩ = some (.int .i64 imm) ∧ w'.cell? ⟨w.heap.size, 5, none⟩ = some (.int .i64 csr) ∧ w'.cell? ⟨w2.heap.size, 0, none⟩ = some (.int .i64 (rI op 0)) ∧ w'.cell? ⟨w2.heap.size, 1, none⟩ = some (.int .i64 (rI op 1)) ∧ w'.cell? ⟨w2.heap.size, 2, none⟩ = some (.int .i64 (rI op 2)) ∧ w'.cell? ⟨w2.heap.size, 3, none⟩ = some (.int .i64 (rI op 3)) ∧ w'.cell? ⟨w2.heap.size, 4, none⟩ = some (.int .i64 (rI op 4)) := by
  obtain ⟨c0, c1, c2, c3, c4, c5⟩ := ((Six.new w 23 op rd rs1 rs2 imm csr).grown (h1.alloc #[.int .i64 (rI op 0), .int .i64 (rI op 1), .int .i64 (rI op 2), .int .i64 (rI op 3), .int .i64 (rI op 4)] 66)).grown hg
  refine ⟨c0, c1, c2, c3, c4, c5, ?_, ?_, ?_, ?_, ?_⟩ <;> exact Grown.cell hg (by simp)
end Go.Proofs.YtdogjmimjjmmaaaDoor
