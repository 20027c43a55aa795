/-
  The inner calls of package insn's Is: walked whole, for every argument, where the listed table's cells stand.
-/
import Derived.Test.YthmanpfooegbcaaDoorInsnIn
import Derived.Deep.RegionHeld3
namespace Go.Proofs.YthmanpfooegbcaaDoor
open Go.RowKit
theorem rI_rd (op : Int) : (bits .and .i64 (rI op 1) 1 == 0) = !hasRd op :=
  op_cases (p := fun op => (bits .and .i64 (rI op 1) 1 == 0) = !hasRd op) (by decide +kernel) (fun op h => by rw [rI_out h, rd_out h]; decide +kernel) op
theorem rI_rs1 (op : Int) : (bits .and .i64 (rI op 1) 2 == 0) = !hasRs1 op :=
  op_cases (p := fun op => (bits .and .i64 (rI op 1) 2 == 0) = !hasRs1 op) (by decide +kernel) (fun op h => by rw [rI_out h, rs1_out h]; decide +kernel) op
theorem rI_rs2 (op : Int) : (bits .and .i64 (rI op 1) 4 == 0) = !hasRs2 op :=
  op_cases (p := fun op => (bits .and .i64 (rI op 1) 4 == 0) = !hasRs2 op) (by decide +kernel) (fun op h => by rw [rI_out h, rs2_out h]; decide +kernel) op
theorem rI_csr (op : Int) : (bits .and .i64 (rI op 1) 8 == 0) = !hasCsr op :=
  op_cases (p := fun op => (bits .and .i64 (rI op 1) 8 == 0) = !hasCsr op) (by decide +kernel) (fun op h => by rw [rI_out h, csr_out h]; decide +kernel) op
def nlo (op : Int) : Int := if hasNum op then (if op ≤ 2 then -2147483648 else if op = 3 then -1048576 else if clsI op = 2 then -4096 else if 28 ≤ op ∧ op ≤ 30 then 0 else if 32 ≤ op ∧ op ≤ 34 ∨ clsI op = 9 then 0 else -2048) else 0
def nhi (op : Int) : Int := if hasNum op then (if op ≤ 2 then 2147479552 else if op = 3 then 1048574 else if clsI op = 2 then 4094 else if 28 ≤ op ∧ op ≤ 30 then 63 else if 32 ≤ op ∧ op ≤ 34 ∨ clsI op = 9 then 31 else 2047) else 0
def nst (op : Int) : Int := if hasNum op then (if op ≤ 2 then 4096 else if op = 3 then 2 else if clsI op = 2 then 2 else if 28 ≤ op ∧ op ≤ 30 then 1 else if 32 ≤ op ∧ op ≤ 34 ∨ clsI op = 9 then 1 else 1) else 1
theorem imm_bounds (op imm : Int) : immB op imm = withinB imm (nlo op) (nhi op) (nst op) := by
  unfold immB nlo nhi nst numB
  cases hasNum op
  · simp only [Bool.false_eq_true, if_false, withinB]
    apply Bool.eq_iff_iff.2
    simp [Int.tmod_one]
    omega
  · simp only [if_true]
    split
    · rfl
    split
    · rfl
    split
    · rfl
    split
    · rfl
    split
    · rfl
    rfl
theorem rI_imm (op : Int) : rI op 0 = 0 ∨ (rI op 2 = nlo op ∧ rI op 3 = nhi op ∧ rI op 4 = nst op ∧ 0 < rI op 4) :=
  op_cases (p := fun op => rI op 0 = 0 ∨ (rI op 2 = nlo op ∧ rI op 3 = nhi op ∧ rI op 4 = nst op ∧ 0 < rI op 4)) (by decide +kernel) (fun op h => .inl (rI_out h 0)) op
/-- What is left of a field. -/
def keptI (has : Bool) (n : Int) : Int := if !has then 0 else n
theorem kept_same (has : Bool) (n : Int) : (keptI has n == n) = (n == 0 || has) := by
  unfold keptI
  cases has
  · apply Bool.eq_iff_iff.2
    simp
    omega
  · simp
def sameK (op rd rs1 rs2 imm csr : Int) : Bool := sameB op (keptI (hasRd op) rd) (keptI (hasRs1 op) rs1) (keptI (hasRs2 op) rs2) imm (keptI (hasCsr op) csr) op rd rs1 rs2 imm csr
theorem is_parts (op rd rs1 rs2 imm csr : Int) : isB op rd rs1 rs2 imm csr = (clsI op != 0 && (sameK op rd rs1 rs2 imm csr && (namedB rd rs1 rs2 csr && immB op imm))) := by
  have k1 := kept_same (hasRd op) rd
  have k2 := kept_same (hasRs1 op) rs1
  have k3 := kept_same (hasRs2 op) rs2
  have k4 := kept_same (hasCsr op) csr
  unfold sameK sameB
  rw [k1, k2, k3, k4]
  unfold isB namedB belowB regB csrB
  cases clsI op != 0
  · rfl
  cases immB op imm
  · simp
  have r1 : ∀ (x : Int) (b : Bool), (x == 0 || b && (decide (0 < x) && decide (x < 32))) = ((x == 0 || b) && (decide (0 ≤ x) && decide (x < 32))) := fun x b => by
    apply Bool.eq_iff_iff.2
    cases b <;> simp <;> omega
  have r2 : (csr == 0 || hasCsr op && (decide (0 ≤ csr) && decide (csr ≤ 4095))) = ((csr == 0 || hasCsr op) && (decide (0 ≤ csr) && decide (csr < 4096))) := by
    have e : decide (csr ≤ 4095) = decide (csr < 4096) := by apply decide_eq_decide.2; omega
    rw [e]
    by_cases h : csr = 0
    · simp [h]
    · cases hasCsr op <;> simp [h]
  rw [r1 rd, r1 rs1, r1 rs2, r2]
  generalize (rd == 0 || hasRd op) = a1
  generalize (rs1 == 0 || hasRs1 op) = a2
  generalize (rs2 == 0 || hasRs2 op) = a3
  generalize (csr == 0 || hasCsr op) = a4
  generalize (decide (0 ≤ rd) && decide (rd < 32)) = b1
  generalize (decide (0 ≤ rs1) && decide (rs1 < 32)) = b2
  generalize (decide (0 ≤ rs2) && decide (rs2 < 32)) = b3
  generalize (decide (0 ≤ csr) && decide (csr < 4096)) = b4
  simp only [beq_self_eq_true, Bool.true_and, Bool.and_true]
  cases a1 <;> cases a2 <;> cases a3 <;> cases a4 <;> cases b1 <;> cases b2 <;> cases b3 <;> cases b4 <;> rfl
theorem kept_from {W w : World} (hg : Grown W w) (op rd rs1 rs2 imm csr : Int) :
    Calls Tryd.prog 42 #[.agg #[.int .i64 op, .int .i64 rd, .int .i64 rs1, .int .i64 rs2, .int .i64 imm, .int .i64 csr], .int .i64 (rI op 1)] w
      fun e w' => e = .returned (.agg #[.int .i64 op, .int .i64 (keptI (hasRd op) rd), .int .i64 (keptI (hasRs1 op) rs1), .int .i64 (keptI (hasRs2 op) rs2), .int .i64 imm, .int .i64 (keptI (hasCsr op) csr)]) ∧ Grown W w' :=
  (kept_any op rd rs1 rs2 imm csr (rI op 1) _ _ _ _ (rI_rd op) (rI_rs1 op) (rI_rs2 op) (rI_csr op) w).mono fun _ _ h => ⟨h.1, Grown.trans' hg h.2⟩
theorem named_from {W w : World} (hg : Grown W w) (op rd rs1 rs2 imm csr : Int) :
    Calls Tryd.prog 43 #[.agg #[.int .i64 op, .int .i64 rd, .int .i64 rs1, .int .i64 rs2, .int .i64 imm, .int .i64 csr]] w fun e w' => e = .returned (.bool (namedB rd rs1 rs2 csr)) ∧ Grown W w' :=
  (named_any op rd rs1 rs2 imm csr w).mono fun _ _ h => ⟨h.1, Grown.trans' hg h.2⟩
theorem allows_from {W w : World} (hg : Grown W w) (op imm : Int) (h : clsI op ≠ 0) :
    Calls Tryd.prog 44 #[.agg #[.int .i64 (rI op 0), .int .i64 (rI op 1), .int .i64 (rI op 2), .int .i64 (rI op 3), .int .i64 (rI op 4)], .int .i64 imm] w fun e w' => e = .returned (.bool (immB op imm)) ∧ Grown W w' := by
  rcases rI_imm op with h0 | ⟨h2, h3, h4, h5⟩
  · rw [rI_cls] at h0
    exact absurd h0 h
  · rw [imm_bounds, ← h2, ← h3, ← h4]
    exact (allows_any _ _ _ _ _ imm h5 w).mono fun _ _ h => ⟨h.1, Grown.trans' hg h.2⟩
theorem eleven {w w2 w' : World} {op rd rs1 rs2 imm csr : Int} (h1 : Grown (w.alloc (.cells #[.int .i64 op, .int .i64 rd, .int .i64 rs1, .int .i64 rs2, .int .i64 imm, .int .i64 csr] 28)) w2) (hg : Grown (w2.alloc (.cells #[.int .i64 (rI op 0), .int .i64 (rI op 1), .int .i64 (rI op 2), .int .i64 (rI op 3), .int .i64 (rI op 4)] 70)) w') :
    w'.cell? ⟨w.heap.size, 0, none⟩ = some (.int .i64 op) ∧ w'.cell? ⟨w.heap.size, 1, none⟩ = some (.int .i64 rd) ∧ w'.cell? ⟨w.heap.size, 2, none⟩ = some (.int .i64 rs1) ∧ w'.cell? ⟨w.heap.size, 3, none⟩ = some (.int .i64 rs2) ∧ w'.cell? ⟨w.heap.size, 4, none⟩ = some (.int .i64 imm) ∧ w'.cell? ⟨w.heap.size, 5, none⟩ = some (.int .i64 csr) ∧ w'.cell? ⟨w2.heap.size, 0, none⟩ = some (.int .i64 (rI op 0)) ∧ w'.cell? ⟨w2.heap.size, 1, none⟩ = some (.int .i64 (rI op 1)) ∧ w'.cell? ⟨w2.heap.size, 2, none⟩ = some (.int .i64 (rI op 2)) ∧ w'.cell? ⟨w2.heap.size, 3, none⟩ = some (.int .i64 (rI op 3)) ∧ w'.cell? ⟨w2.heap.size, 4, none⟩ = some (.int .i64 (rI op 4)) := by
  obtain ⟨c0, c1, c2, c3, c4, c5⟩ := ((Six.new w 28 op rd rs1 rs2 imm csr).grown (h1.alloc #[.int .i64 (rI op 0), .int .i64 (rI op 1), .int .i64 (rI op 2), .int .i64 (rI op 3), .int .i64 (rI op 4)] 70)).grown hg
  refine ⟨c0, c1, c2, c3, c4, c5, ?_, ?_, ?_, ?_, ?_⟩ <;> exact Grown.cell hg (by simp)
end Go.Proofs.YthmanpfooegbcaaDoor
