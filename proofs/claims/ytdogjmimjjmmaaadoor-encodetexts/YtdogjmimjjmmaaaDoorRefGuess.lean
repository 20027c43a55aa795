/-
  What the document's guess and Encode answer (the reference of layers 3 and 4), for every operation.
-/
import Derived.Test.YtdogjmimjjmmaaaDoorRefIs
import Derived.Test.YtdogjmimjjmmaaaDoorDecMask
namespace Go.Proofs.YtdogjmimjjmmaaaDoor
open Go.RowKit
end Go.Proofs.YtdogjmimjjmmaaaDoor
namespace Go.Proofs.YtdogjmimjjmmaaaDoor
open Go.RowKit
def gRd (v : Int) : Int := v / 128 % 32
def gRs1 (v : Int) : Int := v / 32768 % 32
def gRs2 (v : Int) : Int := v / 1048576 % 32
def gCsr (v : Int) : Int := v / 1048576
def gU (v : Int) : Int := sgn (v / 4096 * 4096) 2147483648
def gJ (v : Int) : Int := sgn (v / 2147483648 * 1048576 + v / 4096 % 256 * 4096 + v / 1048576 % 2 * 2048 + v / 2097152 % 1024 * 2) 1048576
def gB (v : Int) : Int := sgn (v / 2147483648 * 4096 + v / 128 % 2 * 2048 + v / 33554432 % 64 * 32 + v / 256 % 16 * 2) 4096
def gS (v : Int) : Int := sgn (v / 33554432 * 32 + v / 128 % 32) 2048
def gI (v : Int) : Int := sgn (v / 1048576) 2048
def g6 (v : Int) : Int := v / 1048576 % 64
def g5 (v : Int) : Int := v / 1048576 % 32
def gZ (v : Int) : Int := v / 32768 % 32
def fixI (op : Int) : Int := if op = 50 then 267386895 else if op = 51 then 4111 else if op = 52 then 115 else if op = 53 then 1048691 else if op = 60 then 807403635 else if op = 61 then 270532723 else if op = 62 then 273678451 else 0
set_option maxHeartbeats 1000000 in
theorem fixed_any (op : Int) (w : World) :
    Calls Tryd.prog 22 #[.int .i64 op] w fun e w' => e = .returned (.int .u32 (fixI op)) ∧ w' = w := by
  go_enter Tryd.func22, Tryd.ntmps22
  go_wp2
  all_goals
    go_ret
    refine ⟨ret_int ?_, rfl⟩
    go_light
    simp only [beq_iff_eq, beq_eq_false_iff_ne, ne_eq] at *
    simp [fixI, *]
end Go.Proofs.YtdogjmimjjmmaaaDoor
namespace Go.Proofs.YtdogjmimjjmmaaaDoor
open Go.RowKit
end Go.Proofs.YtdogjmimjjmmaaaDoor
namespace Go.Proofs.YtdogjmimjjmmaaaDoor
open Go.RowKit
def gRdI (op v : Int) : Int := cond (hasRd op) (gRd v) 0
def gRs1I (op v : Int) : Int := cond (hasRs1 op) (gRs1 v) 0
def gRs2I (op v : Int) : Int := cond (hasRs2 op) (gRs2 v) 0
def gCsrI (op v : Int) : Int := cond (hasCsr op) (gCsr v) 0
def gImmI (op v : Int) : Int :=
  if op ≤ 2 then gU v else if op = 3 then gJ v else if clsI op = 2 then gB v else if clsI op = 4 then gS v else if 28 ≤ op ∧ op ≤ 30 then g6 v
  else if 32 ≤ op ∧ op ≤ 34 then g5 v else if 57 ≤ op ∧ op ≤ 59 then gZ v else if op = 4 ∨ clsI op = 3 ∨ clsI op = 5 then gI v else 0
theorem op_ranges {op : Int} (h0 : 1 ≤ op) (h1 : op ≤ 69) : (1 ≤ op ∧ op ≤ 2) ∨ (3 ≤ op ∧ op ≤ 3) ∨ (4 ≤ op ∧ op ≤ 4) ∨ (5 ≤ op ∧ op ≤ 10) ∨ (11 ≤ op ∧ op ≤ 17) ∨ (18 ≤ op ∧ op ≤ 21) ∨ (22 ≤ op ∧ op ≤ 27) ∨ (28 ≤ op ∧ op ≤ 30) ∨ (31 ≤ op ∧ op ≤ 31) ∨ (32 ≤ op ∧ op ≤ 34) ∨ (35 ≤ op ∧ op ≤ 49) ∨ (50 ≤ op ∧ op ≤ 51) ∨ (52 ≤ op ∧ op ≤ 53) ∨ (54 ≤ op ∧ op ≤ 56) ∨ (57 ≤ op ∧ op ≤ 59) ∨ (60 ≤ op ∧ op ≤ 62) ∨ (63 ≤ op ∧ op ≤ 65) ∨ (66 ≤ op ∧ op ≤ 68) ∨ (69 ≤ op ∧ op ≤ 69) := by omega
end Go.Proofs.YtdogjmimjjmmaaaDoor
