/-
  What package insn's kept leaves of an instruction: walked whole, for every instruction.
-/
import Derived.Test.YtdogjmimjjmmaaaDoorInsn
namespace Go.Proofs.YtdogjmimjjmmaaaDoor
open Go.RowKit
set_option maxHeartbeats 4000000 in
theorem kept_any (op rd rs1 rs2 imm csr fl : Int) (d1 d2 d3 d4 : Bool) (h1 : (bits .and .i64 fl 1 == 0) = d1) (h2 : (bits .and .i64 fl 2 == 0) = d2) (h3 : (bits .and .i64 fl 4 == 0) = d3) (h4 : (bits .and .i64 fl 8 == 0) = d4) (w : World) :
    Calls Tryd.prog 36 #[.agg #[.int .i64 op, .int .i64 rd, .int .i64 rs1, .int .i64 rs2, .int .i64 imm, .int .i64 csr], .int .i64 fl] w
      fun e w' => e = .returned (.agg #[.int .i64 op, .int .i64 (if d1 then 0 else rd), .int .i64 (if d2 then 0 else rs1), .int .i64 (if d3 then 0 else rs2), .int .i64 imm, .int .i64 (if d4 then 0 else csr)]) ∧ Grown w w' := by
  cases d1 <;> cases d2 <;> cases d3 <;> cases d4
  all_goals
    go_enter Tryd.func36, Tryd.ntmps36
    go_wp2
    refine bodyPost_ret ?_ rfl ⟨rfl, (((Grown.refl _).alloc _ _).alloc _ _).alloc _ _⟩
    simp [results, Tryd.results36, go_sem]
end Go.Proofs.YtdogjmimjjmmaaaDoor
