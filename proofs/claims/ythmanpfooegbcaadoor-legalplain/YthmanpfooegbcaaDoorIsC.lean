/-
  package insn's Is, where all but the number is right.
-/
import Derived.Test.YthmanpfooegbcaaDoorIsBase
namespace Go.Proofs.YthmanpfooegbcaaDoor
open Go.RowKit
set_option maxHeartbeats 4000000 in
theorem is_fields (op rd rs1 rs2 imm csr : Int) (w : World) (hT : TabI w) (hc : ¬ clsI op = 0) (h1 : sameK op rd rs1 rs2 imm csr = true) (h2 : namedB rd rs1 rs2 csr = true) :
    Calls Tryd.prog 28 #[.agg #[.int .i64 op, .int .i64 rd, .int .i64 rs1, .int .i64 rs2, .int .i64 imm, .int .i64 csr]] w fun e w' => e = .returned (.bool (immB op imm)) ∧ Grown w w' := by
  have hql := eql_insn
  have hT1 := hT.grown ((Grown.refl w).alloc #[.int .i64 op, .int .i64 rd, .int .i64 rs1, .int .i64 rs2, .int .i64 imm, .int .i64 csr] 28)
  have hr : (rI op 0 != 0) = true := by rw [rI_cls]; simp [hc]
  unfold sameK at h1
  go_enter Tryd.func28, Tryd.ntmps28
  go_wp2_with (go_at_call 41; refine (rule_any _ _ hT1).mono ?_; rintro e w2 ⟨rfl, hg⟩; obtain ⟨c0, c1, c2, c3, c4, c5⟩ := (Six.new _ _ _ _ _ _ _ _).grown hg)
  clear c0 c1 c2 c3 c4 c5
  have hq : GG (w2.alloc (.cells #[.int .i64 (rI op 0), .int .i64 (rI op 1), .int .i64 (rI op 2), .int .i64 (rI op 3), .int .i64 (rI op 4)] 70)) (w2.alloc (.cells #[.int .i64 (rI op 0), .int .i64 (rI op 1), .int .i64 (rI op 2), .int .i64 (rI op 3), .int .i64 (rI op 4)] 70)).drew := ⟨(Grown.refl _).drew⟩
  go_region_held3 (fun w' => GG (w2.alloc (.cells #[.int .i64 (rI op 0), .int .i64 (rI op 1), .int .i64 (rI op 2), .int .i64 (rI op 3), .int .i64 (rI op 4)] 70)) w' ∧ w'.cell? ⟨w.heap.size, 0, none⟩ = some (.int .i64 op) ∧ w'.cell? ⟨w.heap.size, 1, none⟩ = some (.int .i64 rd) ∧ w'.cell? ⟨w.heap.size, 2, none⟩ = some (.int .i64 rs1) ∧ w'.cell? ⟨w.heap.size, 3, none⟩ = some (.int .i64 rs2) ∧ w'.cell? ⟨w.heap.size, 4, none⟩ = some (.int .i64 imm) ∧ w'.cell? ⟨w.heap.size, 5, none⟩ = some (.int .i64 csr) ∧ w'.cell? ⟨w2.heap.size, 0, none⟩ = some (.int .i64 (rI op 0)) ∧ w'.cell? ⟨w2.heap.size, 1, none⟩ = some (.int .i64 (rI op 1)) ∧ w'.cell? ⟨w2.heap.size, 2, none⟩ = some (.int .i64 (rI op 2)) ∧ w'.cell? ⟨w2.heap.size, 3, none⟩ = some (.int .i64 (rI op 3)) ∧ w'.cell? ⟨w2.heap.size, 4, none⟩ = some (.int .i64 (rI op 4))) (exact ⟨hq, eleven hg hq.g⟩) (first | (go_at_call 42; refine (kept_from (GG.g (by assumption)) _ _ _ _ _ _).mono ?_; rintro e w' ⟨rfl, hq⟩; replace hq : GG _ _ := ⟨hq⟩) | (go_at_call 43; refine (named_from (GG.g (by assumption)) _ _ _ _ _ _).mono ?_; rintro e w' ⟨rfl, hq⟩; replace hq : GG _ _ := ⟨hq⟩) | (go_at_call 44; refine (allows_from (GG.g (by assumption)) _ _ hc).mono ?_; rintro e w' ⟨rfl, hq⟩; replace hq : GG _ _ := ⟨hq⟩))
  go_wp2
  go_ret
  exact ⟨rfl, Grown.trans' (Grown.trans' ((Grown.refl _).alloc _ _) hg) (Grown.trans' ((Grown.refl _).alloc _ _) hq.g)⟩
end Go.Proofs.YthmanpfooegbcaaDoor
