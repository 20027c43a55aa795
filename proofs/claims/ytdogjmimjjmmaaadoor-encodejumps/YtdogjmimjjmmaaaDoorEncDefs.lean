/-
  What Encode and Text answer, as P4.1 and P4.2 tell it.
-/
import Derived.Test.YtdogjmimjjmmaaaDoorRefText
import Derived.Test.YtdogjmimjjmmaaaDoorRefEnc
import Derived.Test.YtdogjmimjjmmaaaDoorSame
namespace Go.Proofs.YtdogjmimjjmmaaaDoor
open Go.RowKit
/-- The word of an instruction, or 0. -/
def eW (op rd rs1 rs2 imm csr : Int) : Int := cond (isB op rd rs1 rs2 imm csr) (encI op rd rs1 rs2 (imm % 4294967296) csr) 0
def eE (op rd rs1 rs2 imm csr : Int) : Int := cond (isB op rd rs1 rs2 imm csr) 0 40
def tS (op rd rs1 rs2 imm csr : Int) : List UInt8 := cond (isB op rd rs1 rs2 imm csr) (txtL op rd rs1 rs2 imm csr) []
theorem e_yes {op rd rs1 rs2 imm csr : Int} (h : isB op rd rs1 rs2 imm csr = true) : eW op rd rs1 rs2 imm csr = encI op rd rs1 rs2 (imm % 4294967296) csr ∧ eE op rd rs1 rs2 imm csr = 0 ∧ tS op rd rs1 rs2 imm csr = txtL op rd rs1 rs2 imm csr := by
  unfold eW eE tS; rw [h]; exact ⟨rfl, rfl, rfl⟩
theorem e_no {op rd rs1 rs2 imm csr : Int} (h : isB op rd rs1 rs2 imm csr = false) : eW op rd rs1 rs2 imm csr = 0 ∧ eE op rd rs1 rs2 imm csr = 40 ∧ tS op rd rs1 rs2 imm csr = [] := by
  unfold eW eE tS; rw [h]; exact ⟨rfl, rfl, rfl⟩
end Go.Proofs.YtdogjmimjjmmaaaDoor
