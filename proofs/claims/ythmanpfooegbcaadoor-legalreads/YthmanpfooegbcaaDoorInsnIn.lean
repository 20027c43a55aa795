/-
  What the inner functions of package insn that only reckon answer: walked whole, for every argument.
-/
import Derived.Test.YthmanpfooegbcaaDoorRefIs
namespace Go.Proofs.YthmanpfooegbcaaDoor
open Go.RowKit
def belowB (n many : Int) : Bool := decide (0 ≤ n) && decide (n < many)
set_option maxHeartbeats 400000 in
theorem below_any (n many : Int) (w : World) :
    Calls Tryd.prog 47 #[.int .i64 n, .int .i64 many] w fun e w' => e = .returned (.bool (belowB n many)) ∧ w' = w := by
  go_enter Tryd.func47, Tryd.ntmps47
  go_wp2
  all_goals
    go_ret
    refine ⟨ret_bool ?_, rfl⟩
    go_light
    simp [belowB]
    try omega
def namedB (rd rs1 rs2 csr : Int) : Bool := belowB rd 32 && (belowB rs1 32 && (belowB rs2 32 && belowB csr 4096))
set_option maxHeartbeats 1000000 in
theorem named_any (op rd rs1 rs2 imm csr : Int) (w : World) :
    Calls Tryd.prog 43 #[.agg #[.int .i64 op, .int .i64 rd, .int .i64 rs1, .int .i64 rs2, .int .i64 imm, .int .i64 csr]] w fun e w' => e = .returned (.bool (namedB rd rs1 rs2 csr)) ∧ Grown w w' := by
  unfold namedB
  cases h1 : belowB rd 32 <;> cases h2 : belowB rs1 32 <;> cases h3 : belowB rs2 32 <;> cases h4 : belowB csr 4096
  all_goals
    go_enter Tryd.func43, Tryd.ntmps43
    go_wp2_with (go_at_call 47; refine (below_any _ _ _).mono ?_; rintro e w' ⟨rfl, rfl⟩)
  all_goals
    go_ret
    exact ⟨rfl, (Grown.refl _).alloc _ _⟩
set_option maxHeartbeats 400000 in
theorem allows_any (cl fl lo hi st imm : Int) (hs : 0 < st) (w : World) :
    Calls Tryd.prog 44 #[.agg #[.int .i64 cl, .int .i64 fl, .int .i64 lo, .int .i64 hi, .int .i64 st], .int .i64 imm] w fun e w' => e = .returned (.bool (withinB imm lo hi st)) ∧ Grown w w' := by
  go_enter Tryd.func44, Tryd.ntmps44
  go_wp2
  all_goals
    go_ret
    refine ⟨ret_bool ?_, (Grown.refl _).alloc _ _⟩
    go_light
    simp [withinB]
    try omega
set_option maxHeartbeats 4000000 in
theorem kept_any (op rd rs1 rs2 imm csr fl : Int) (d1 d2 d3 d4 : Bool) (h1 : (bits .and .i64 fl 1 == 0) = d1) (h2 : (bits .and .i64 fl 2 == 0) = d2) (h3 : (bits .and .i64 fl 4 == 0) = d3) (h4 : (bits .and .i64 fl 8 == 0) = d4) (w : World) :
    Calls Tryd.prog 42 #[.agg #[.int .i64 op, .int .i64 rd, .int .i64 rs1, .int .i64 rs2, .int .i64 imm, .int .i64 csr], .int .i64 fl] w
      fun e w' => e = .returned (.agg #[.int .i64 op, .int .i64 (if d1 then 0 else rd), .int .i64 (if d2 then 0 else rs1), .int .i64 (if d3 then 0 else rs2), .int .i64 imm, .int .i64 (if d4 then 0 else csr)]) ∧ Grown w w' := by
  cases d1 <;> cases d2 <;> cases d3 <;> cases d4
  all_goals
    go_enter Tryd.func42, Tryd.ntmps42
    go_wp2
    refine bodyPost_ret ?_ rfl ⟨rfl, (((Grown.refl _).alloc _ _).alloc _ _).alloc _ _⟩
    simp [results, Tryd.results42, go_sem]
def sameB (op rd rs1 rs2 imm csr op' rd' rs1' rs2' imm' csr' : Int) : Bool := op == op' && (rd == rd' && (rs1 == rs1' && (rs2 == rs2' && (imm == imm' && csr == csr'))))
theorem eql_insn (op rd rs1 rs2 imm csr op' rd' rs1' rs2' imm' csr' : Int) (w : World) :
    (binOp .eql 28 (.agg #[.int .i64 op, .int .i64 rd, .int .i64 rs1, .int .i64 rs2, .int .i64 imm, .int .i64 csr]) (.agg #[.int .i64 op', .int .i64 rd', .int .i64 rs1', .int .i64 rs2', .int .i64 imm', .int .i64 csr'])).run Tryd.prog w
      = Result.ok (.bool (sameB op rd rs1 rs2 imm csr op' rd' rs1' rs2' imm' csr')) w := by
  simp [go_sem]
  unfold sameB
  by_cases h0 : op = op'
  · by_cases h1 : rd = rd'
    · by_cases h2 : rs1 = rs1'
      · by_cases h3 : rs2 = rs2'
        · by_cases h4 : imm = imm'
          · by_cases h5 : csr = csr' <;> simp [h0, h1, h2, h3, h4, h5]
          · simp [h0, h1, h2, h3, h4]
        · simp [h0, h1, h2, h3]
      · simp [h0, h1, h2]
    · simp [h0, h1]
  · simp [h0]
end Go.Proofs.YthmanpfooegbcaaDoor
