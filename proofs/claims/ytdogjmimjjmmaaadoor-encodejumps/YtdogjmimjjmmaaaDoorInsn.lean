/-
  What the inner functions of package insn that only reckon answer: walked whole, for every argument.
-/
import Derived.Test.YtdogjmimjjmmaaaDoorRefName
namespace Go.Proofs.YtdogjmimjjmmaaaDoor
open Go.RowKit
def belowB (n many : Int) : Bool := decide (0 ≤ n) && decide (n < many)
set_option maxHeartbeats 400000 in
theorem below_any (n many : Int) (w : World) :
    Calls Tryd.prog 61 #[.int .i64 n, .int .i64 many] w fun e w' => e = .returned (.bool (belowB n many)) ∧ w' = w := by
  go_enter Tryd.func61, Tryd.ntmps61
  go_wp2
  all_goals
    go_ret
    refine ⟨ret_bool ?_, rfl⟩
    go_light
    simp [belowB]
    try omega
def namedB (rd rs1 rs2 csr : Int) : Bool := belowB rd 32 && (belowB rs1 32 && (belowB rs2 32 && belowB csr 4096))
set_option maxHeartbeats 1000000 in
theorem named_any (op rd rs1 rs2 imm csr : Int) (w : World) :
    Calls Tryd.prog 37 #[.agg #[.int .i64 op, .int .i64 rd, .int .i64 rs1, .int .i64 rs2, .int .i64 imm, .int .i64 csr]] w fun e w' => e = .returned (.bool (namedB rd rs1 rs2 csr)) ∧ Grown w w' := by
  unfold namedB
  cases h1 : belowB rd 32 <;> cases h2 : belowB rs1 32 <;> cases h3 : belowB rs2 32 <;> cases h4 : belowB csr 4096
  all_goals
    go_enter Tryd.func37, Tryd.ntmps37
    go_wp2_with (go_at_call 61; refine (below_any _ _ _).mono ?_; rintro e w' ⟨rfl, rfl⟩)
  all_goals
    go_ret
    exact ⟨rfl, (Grown.refl _).alloc _ _⟩
set_option maxHeartbeats 400000 in
theorem allows_any (cl fl lo hi st imm : Int) (hs : 0 < st) (w : World) :
    Calls Tryd.prog 38 #[.agg #[.int .i64 cl, .int .i64 fl, .int .i64 lo, .int .i64 hi, .int .i64 st], .int .i64 imm] w fun e w' => e = .returned (.bool (withinB imm lo hi st)) ∧ Grown w w' := by
  go_enter Tryd.func38, Tryd.ntmps38
  go_wp2
  all_goals
    go_ret
    refine ⟨ret_bool ?_, (Grown.refl _).alloc _ _⟩
    go_light
    simp [withinB]
    try omega
end Go.Proofs.YtdogjmimjjmmaaaDoor
