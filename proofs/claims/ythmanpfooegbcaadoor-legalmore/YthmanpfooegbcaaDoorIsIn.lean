/-
  What package insn's Is answers: walked whole, for every instruction, where the listed table's cells stand.
-/
import Derived.Test.YthmanpfooegbcaaDoorIsA
import Derived.Test.YthmanpfooegbcaaDoorIsB
import Derived.Test.YthmanpfooegbcaaDoorIsC
namespace Go.Proofs.YthmanpfooegbcaaDoor
open Go.RowKit
theorem is_in (op rd rs1 rs2 imm csr : Int) (w : World) (hT : TabI w) :
    Calls Tryd.prog 28 #[.agg #[.int .i64 op, .int .i64 rd, .int .i64 rs1, .int .i64 rs2, .int .i64 imm, .int .i64 csr]] w fun e w' => e = .returned (.bool (isB op rd rs1 rs2 imm csr)) ∧ Grown w w' := by
  rw [is_parts]
  by_cases hc : clsI op = 0
  · rw [show (clsI op != 0) = false by simp [hc]]
    exact is_none op rd rs1 rs2 imm csr w hT hc
  · rw [show (clsI op != 0) = true by simp [hc]]
    cases h1 : sameK op rd rs1 rs2 imm csr
    · exact is_unlike op rd rs1 rs2 imm csr w hT hc h1
    · cases h2 : namedB rd rs1 rs2 csr
      · exact is_unnamed op rd rs1 rs2 imm csr w hT hc h1 h2
      · exact is_fields op rd rs1 rs2 imm csr w hT hc h1 h2
end Go.Proofs.YthmanpfooegbcaaDoor
