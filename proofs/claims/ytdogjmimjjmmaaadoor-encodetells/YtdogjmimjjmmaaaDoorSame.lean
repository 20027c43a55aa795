/-
  What package insn's Same answers: walked whole, for every two instructions.
-/
import Derived.Test.YtdogjmimjjmmaaaDoorInsn
namespace Go.Proofs.YtdogjmimjjmmaaaDoor
open Go.RowKit
def sameB (op rd rs1 rs2 imm csr op' rd' rs1' rs2' imm' csr' : Int) : Bool := op == op' && (rd == rd' && (rs1 == rs1' && (rs2 == rs2' && (imm == imm' && csr == csr'))))
theorem eql_insn (op rd rs1 rs2 imm csr op' rd' rs1' rs2' imm' csr' : Int) (w : World) :
    (binOp .eql 23 (.agg #[.int .i64 op, .int .i64 rd, .int .i64 rs1, .int .i64 rs2, .int .i64 imm, .int .i64 csr]) (.agg #[.int .i64 op', .int .i64 rd', .int .i64 rs1', .int .i64 rs2', .int .i64 imm', .int .i64 csr'])).run Tryd.prog w
      = Result.ok (.bool (sameB op rd rs1 rs2 imm csr op' rd' rs1' rs2' imm' csr')) w := by
  simp [go_sem]
  unfold sameB
  by_cases h0 : op = op'
  · by_cases h1 : rd = rd'
    · by_cases h2 : rs1 = rs1'
      · by_cases h3 : rs2 = rs2'
        · by_cases h4 : imm = imm'
          · by_cases h5 : csr = csr' <;> simp [h0, h1, h2, h3, h4, h5]
          · simp [h0, h1, h2, h3, h4]
        · simp [h0, h1, h2, h3]
      · simp [h0, h1, h2]
    · simp [h0, h1]
  · simp [h0]
end Go.Proofs.YtdogjmimjjmmaaaDoor
