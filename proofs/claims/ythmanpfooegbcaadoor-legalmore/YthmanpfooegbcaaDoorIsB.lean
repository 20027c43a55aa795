/-
  package insn's Is, where a field is beyond its numbers.
-/
import Derived.Test.YthmanpfooegbcaaDoorIsBase
namespace Go.Proofs.YthmanpfooegbcaaDoor
open Go.RowKit
set_option maxHeartbeats 4000000 in
theorem is_unnamed (op rd rs1 rs2 imm csr : Int) (w : World) (hT : TabI w) (hc : ¬ clsI op = 0) (h1 : sameK op rd rs1 rs2 imm csr = true) (h2 : namedB rd rs1 rs2 csr = false) :
    Calls Tryd.prog 28 #[.agg #[.int .i64 op, .int .i64 rd, .int .i64 rs1, .int .i64 rs2, .int .i64 imm, .int .i64 csr]] w fun e w' => e = .returned (.bool false) ∧ Grown w w' := by
  have hql := eql_insn
  have hT1 := hT.grown ((Grown.refl w).alloc #[.int .i64 op, .int .i64 rd, .int .i64 rs1, .int .i64 rs2, .int .i64 imm, .int .i64 csr] 28)
  have hr : (rI op 0 != 0) = true := by rw [rI_cls]; simp [hc]
  unfold sameK at h1
  go_enter Tryd.func28, Tryd.ntmps28
  go_wp2_with (go_at_call 41; refine (rule_any _ _ hT1).mono ?_; rintro e w2 ⟨rfl, hg⟩; obtain ⟨c0, c1, c2, c3, c4, c5⟩ := (Six.new _ _ _ _ _ _ _ _).grown hg)
  clear c0 c1 c2 c3 c4 c5
  have hq : GG (w2.alloc (.cells #[.int .i64 (rI op 0), .int .i64 (rI op 1), .int .i64 (rI op 2), .int .i64 (rI op 3), .int .i64 (rI op 4)] 70)) (w2.alloc (.cells #[.int .i64 (rI op 0), .int .i64 (rI op 1), .int .i64 (rI op 2), .int .i64 (rI op 3), .int .i64 (rI op 4)] 70)).drew := ⟨(Grown.refl _).drew⟩
  obtain ⟨c0, c1, c2, c3, c4, c5, d0, d1, d2, d3, d4⟩ := eleven hg hq.g
  first | (go_region_with (first | (go_at_call 42; refine (kept_from hq.g _ _ _ _ _ _).mono ?_; rintro e w' ⟨rfl, hq⟩; replace hq : GG _ _ := ⟨hq⟩; obtain ⟨c0, c1, c2, c3, c4, c5, d0, d1, d2, d3, d4⟩ := eleven hg hq.g) | (go_at_call 43; refine (named_from hq.g _ _ _ _ _ _).mono ?_; rintro e w' ⟨rfl, hq⟩; replace hq : GG _ _ := ⟨hq⟩; obtain ⟨c0, c1, c2, c3, c4, c5, d0, d1, d2, d3, d4⟩ := eleven hg hq.g) | (go_at_call 44; refine (allows_from hq.g _ _ hc).mono ?_; rintro e w' ⟨rfl, hq⟩; replace hq : GG _ _ := ⟨hq⟩; obtain ⟨c0, c1, c2, c3, c4, c5, d0, d1, d2, d3, d4⟩ := eleven hg hq.g))) | fail
  all_goals
    go_wp2
    go_ret
    exact ⟨rfl, Grown.trans' (Grown.trans' ((Grown.refl _).alloc _ _) hg) (Grown.trans' ((Grown.refl _).alloc _ _) hq.g)⟩
end Go.Proofs.YthmanpfooegbcaaDoor
