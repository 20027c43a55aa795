/-
  What the document's Is answers (the reference of layers 2 to 4): walked whole, for every instruction.
-/
import Derived.Test.YtdogjmimjjmmaaaDoorRefInsn
namespace Go.Proofs.YtdogjmimjjmmaaaDoor
open Go.RowKit
def csrB (r : Int) (has : Bool) : Bool := r == 0 || has && (decide (0 ≤ r) && decide (r ≤ 4095))
def immB (op imm : Int) : Bool := if hasNum op then numB op imm else imm == 0
/-- Whether it is an instruction, as P2.2 tells it. -/
def isB (op rd rs1 rs2 imm csr : Int) : Bool := clsI op != 0 && (regB rd (hasRd op) && (regB rs1 (hasRs1 op) && (regB rs2 (hasRs2 op) && (csrB csr (hasCsr op) && immB op imm))))
theorem is_ways (op rd rs1 rs2 imm csr : Int) :
    (clsI op == 0) = true ∧ isB op rd rs1 rs2 imm csr = false ∨ (clsI op == 0) = false ∧ (
    regB rd (hasRd op) = false ∧ isB op rd rs1 rs2 imm csr = false ∨ regB rd (hasRd op) = true ∧ (
    regB rs1 (hasRs1 op) = false ∧ isB op rd rs1 rs2 imm csr = false ∨ regB rs1 (hasRs1 op) = true ∧ (
    regB rs2 (hasRs2 op) = false ∧ isB op rd rs1 rs2 imm csr = false ∨ regB rs2 (hasRs2 op) = true ∧ (
    (¬ csr = 0 ∧ hasCsr op = false) ∧ isB op rd rs1 rs2 imm csr = false ∨ (¬ csr = 0 ∧ hasCsr op = true ∧ csr < 0) ∧ isB op rd rs1 rs2 imm csr = false ∨
    (¬ csr = 0 ∧ hasCsr op = true ∧ ¬ csr < 0 ∧ csr > 4095) ∧ isB op rd rs1 rs2 imm csr = false ∨
    (csr = 0 ∨ ¬ csr = 0 ∧ hasCsr op = true ∧ ¬ csr < 0 ∧ ¬ csr > 4095) ∧ (
    hasNum op = false ∧ isB op rd rs1 rs2 imm csr = (imm == 0) ∨ hasNum op = true ∧ isB op rd rs1 rs2 imm csr = numB op imm))))) := by
  unfold isB csrB immB
  cases h0 : clsI op == 0
  · cases h1 : regB rd (hasRd op)
    · simp
    cases h2 : regB rs1 (hasRs1 op)
    · simp
    cases h3 : regB rs2 (hasRs2 op)
    · simp
    cases h4 : hasCsr op <;> cases h5 : hasNum op <;> by_cases h6 : csr = 0 <;> simp [h6, bne, h0] <;> by_cases h7 : csr < 0 <;> by_cases h8 : csr > 4095 <;> simp [h7, h8] <;> omega
  · simp at h0
    simp [h0]
set_option maxHeartbeats 2000000 in
theorem ris_any (op rd rs1 rs2 imm csr : Int) (w : World) :
    Calls Tryd.prog 21 #[.agg #[.int .i64 op, .int .i64 rd, .int .i64 rs1, .int .i64 rs2, .int .i64 imm, .int .i64 csr]] w fun e w' => e = .returned (.bool (isB op rd rs1 rs2 imm csr)) ∧ Grown w w' := by
  rcases is_ways op rd rs1 rs2 imm csr with ⟨h0, hb⟩ | ⟨h0, ⟨h1, hb⟩ | ⟨h1, ⟨h2, hb⟩ | ⟨h2, ⟨h3, hb⟩ | ⟨h3, ⟨⟨h4, h5⟩, hb⟩ | ⟨⟨h4, h5, h6⟩, hb⟩ | ⟨⟨h4, h5, h6, h7⟩, hb⟩ | ⟨rfl | ⟨h4, h5, h6, h7⟩, ⟨h8, hb⟩ | ⟨h8, hb⟩⟩⟩⟩⟩⟩
  all_goals
    rw [hb]
    clear hb
    go_enter Tryd.func21, Tryd.ntmps21
    go_wp2_with (first | (go_at_call 24; refine (rclass_any _ _).mono ?_; rintro e w' ⟨rfl, rfl⟩) | (go_at_call 29; refine (rparts_any _ _).mono ?_; rintro e w' ⟨rfl, rfl⟩) | (go_at_call 44; refine (rreg_any _ _ _).mono ?_; rintro e w' ⟨rfl, rfl⟩) | (go_at_call 45; refine (rnumber_any _ _ _ _ _ _ _).mono ?_; rintro e w' ⟨rfl, hg⟩))
  all_goals
    go_ret
    refine ⟨rfl, ?_⟩
    first | exact (Grown.refl _).alloc _ _ | exact Grown.trans' ((Grown.refl _).alloc _ _) hg
end Go.Proofs.YtdogjmimjjmmaaaDoor
