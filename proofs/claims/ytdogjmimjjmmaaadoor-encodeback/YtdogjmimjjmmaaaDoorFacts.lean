/-
  What package insn's calls answer: walked whole, for every argument, where the listed table's cells stand.
-/
import Derived.Test.YtdogjmimjjmmaaaDoorRuleOf
import Derived.Test.YtdogjmimjjmmaaaDoorSame
import Derived.Deep.RegionHeld3
namespace Go.Proofs.YtdogjmimjjmmaaaDoor
open Go.RowKit
structure GG (a b : World) : Prop where
  g : Grown a b
/-- Which row of the table an operation has. -/
def gOf (op : Int) : Nat := (List.range 19).findIdx (fun k => decide (gN k 0 ≤ op ∧ op ≤ gN k 1))
def rI (op : Int) (j : Nat) : Int := if gOf op < 19 then gN (gOf op) (2 + j) else 0
theorem gOf_no (op : Int) (j : Nat) (h : j < gOf op) : ¬ (gN j 0 ≤ op ∧ op ≤ gN j 1) := by
  have e := List.not_of_lt_findIdx (xs := List.range 19) (p := fun k => decide (gN k 0 ≤ op ∧ op ≤ gN k 1)) h
  simpa using e
theorem gOf_yes (op : Int) (h : gOf op < 19) : gN (gOf op) 0 ≤ op ∧ op ≤ gN (gOf op) 1 := by
  have e := List.findIdx_getElem (xs := List.range 19) (p := fun k => decide (gN k 0 ≤ op ∧ op ≤ gN k 1)) (w := by rw [List.length_range]; exact h)
  simpa [gOf] using e
theorem g_bounds (k : Nat) (hk : k < 19) : 1 ≤ gN k 0 ∧ gN k 1 ≤ 69 ∧ 0 < gN k 6 := by
  have : ∀ k : Fin 19, 1 ≤ gN k.val 0 ∧ gN k.val 1 ≤ 69 ∧ 0 < gN k.val 6 := by decide +kernel
  exact this ⟨k, hk⟩
theorem gOf_out {op : Int} (h : op < 0 ∨ 70 ≤ op) : gOf op = 19 := by
  have hle : gOf op ≤ 19 := by simpa [gOf] using List.findIdx_le_length (xs := List.range 19) (p := fun k => decide (gN k 0 ≤ op ∧ op ≤ gN k 1))
  by_cases hlt : gOf op < 19
  · have := gOf_yes op hlt
    have := g_bounds _ hlt
    omega
  · omega
theorem rI_out {op : Int} (h : op < 0 ∨ 70 ≤ op) (j : Nat) : rI op j = 0 := by
  unfold rI; rw [gOf_out h]; rfl
theorem rule_any (op : Int) (w : World) (hT : TabI w) :
    Calls Tryd.prog 35 #[.int .i64 op] w fun e w' => e = .returned (.agg #[.int .i64 (rI op 0), .int .i64 (rI op 1), .int .i64 (rI op 2), .int .i64 (rI op 3), .int .i64 (rI op 4)]) ∧ Grown w w' := by
  by_cases h : gOf op < 19
  · have e : ∀ j, rI op j = gN (gOf op) (2 + j) := fun j => by unfold rI; rw [if_pos h]
    simp only [e]
    exact rule_hit op (gOf op) h (fun j hj => gOf_no op j hj) (gOf_yes op h).1 (gOf_yes op h).2 w hT
  · have e : ∀ j, rI op j = 0 := fun j => by unfold rI; rw [if_neg h]
    simp only [e]
    exact rule_none op (fun j hj => gOf_no op j (by omega)) w hT
theorem rI_cls (op : Int) : rI op 0 = clsI op :=
  op_cases (p := fun op => rI op 0 = clsI op) (by decide +kernel) (fun op h => by rw [rI_out h, cls_out h]) op
theorem rI_rd (op : Int) : (bits .and .i64 (rI op 1) 1 == 0) = !hasRd op :=
  op_cases (p := fun op => (bits .and .i64 (rI op 1) 1 == 0) = !hasRd op) (by decide +kernel) (fun op h => by rw [rI_out h, rd_out h]; decide +kernel) op
theorem rI_rs1 (op : Int) : (bits .and .i64 (rI op 1) 2 == 0) = !hasRs1 op :=
  op_cases (p := fun op => (bits .and .i64 (rI op 1) 2 == 0) = !hasRs1 op) (by decide +kernel) (fun op h => by rw [rI_out h, rs1_out h]; decide +kernel) op
theorem rI_rs2 (op : Int) : (bits .and .i64 (rI op 1) 4 == 0) = !hasRs2 op :=
  op_cases (p := fun op => (bits .and .i64 (rI op 1) 4 == 0) = !hasRs2 op) (by decide +kernel) (fun op h => by rw [rI_out h, rs2_out h]; decide +kernel) op
theorem rI_csr (op : Int) : (bits .and .i64 (rI op 1) 8 == 0) = !hasCsr op :=
  op_cases (p := fun op => (bits .and .i64 (rI op 1) 8 == 0) = !hasCsr op) (by decide +kernel) (fun op h => by rw [rI_out h, csr_out h]; decide +kernel) op
def nlo (op : Int) : Int := if hasNum op then (if op ≤ 2 then -2147483648 else if op = 3 then -1048576 else if clsI op = 2 then -4096 else if 28 ≤ op ∧ op ≤ 30 then 0 else if 32 ≤ op ∧ op ≤ 34 ∨ clsI op = 9 then 0 else -2048) else 0
def nhi (op : Int) : Int := if hasNum op then (if op ≤ 2 then 2147479552 else if op = 3 then 1048574 else if clsI op = 2 then 4094 else if 28 ≤ op ∧ op ≤ 30 then 63 else if 32 ≤ op ∧ op ≤ 34 ∨ clsI op = 9 then 31 else 2047) else 0
def nst (op : Int) : Int := if hasNum op then (if op ≤ 2 then 4096 else if op = 3 then 2 else if clsI op = 2 then 2 else if 28 ≤ op ∧ op ≤ 30 then 1 else if 32 ≤ op ∧ op ≤ 34 ∨ clsI op = 9 then 1 else 1) else 1
theorem imm_bounds (op imm : Int) : immB op imm = withinB imm (nlo op) (nhi op) (nst op) := by
  unfold immB nlo nhi nst numB
  cases hasNum op
  · simp only [Bool.false_eq_true, if_false, withinB]
    apply Bool.eq_iff_iff.2
    simp [Int.tmod_one]
    omega
  · simp only [if_true]
    split
    · rfl
    split
    · rfl
    split
    · rfl
    split
    · rfl
    split
    · rfl
    rfl
theorem rI_imm (op : Int) : rI op 0 = 0 ∨ (rI op 2 = nlo op ∧ rI op 3 = nhi op ∧ rI op 4 = nst op ∧ 0 < rI op 4) :=
  op_cases (p := fun op => rI op 0 = 0 ∨ (rI op 2 = nlo op ∧ rI op 3 = nhi op ∧ rI op 4 = nst op ∧ 0 < rI op 4)) (by decide +kernel) (fun op h => .inl (rI_out h 0)) op
/-- What is left of a field. -/
def keptI (has : Bool) (n : Int) : Int := if !has then 0 else n
theorem kept_same (has : Bool) (n : Int) : (keptI has n == n) = (n == 0 || has) := by
  unfold keptI
  cases has
  · apply Bool.eq_iff_iff.2
    simp
    omega
  · simp
def sameK (op rd rs1 rs2 imm csr : Int) : Bool := sameB op (keptI (hasRd op) rd) (keptI (hasRs1 op) rs1) (keptI (hasRs2 op) rs2) imm (keptI (hasCsr op) csr) op rd rs1 rs2 imm csr
theorem is_parts (op rd rs1 rs2 imm csr : Int) : isB op rd rs1 rs2 imm csr = (clsI op != 0 && (sameK op rd rs1 rs2 imm csr && (namedB rd rs1 rs2 csr && immB op imm))) := by
  have k1 := kept_same (hasRd op) rd
  have k2 := kept_same (hasRs1 op) rs1
  have k3 := kept_same (hasRs2 op) rs2
  have k4 := kept_same (hasCsr op) csr
  unfold sameK sameB
  rw [k1, k2, k3, k4]
  unfold isB namedB belowB regB csrB
  cases clsI op != 0
  · rfl
  cases immB op imm
  · simp
  have r1 : ∀ (x : Int) (b : Bool), (x == 0 || b && (decide (0 < x) && decide (x < 32))) = ((x == 0 || b) && (decide (0 ≤ x) && decide (x < 32))) := fun x b => by
    apply Bool.eq_iff_iff.2
    cases b <;> simp <;> omega
  have r2 : (csr == 0 || hasCsr op && (decide (0 ≤ csr) && decide (csr ≤ 4095))) = ((csr == 0 || hasCsr op) && (decide (0 ≤ csr) && decide (csr < 4096))) := by
    have e : decide (csr ≤ 4095) = decide (csr < 4096) := by apply decide_eq_decide.2; omega
    rw [e]
    by_cases h : csr = 0
    · simp [h]
    · cases hasCsr op <;> simp [h]
  rw [r1 rd, r1 rs1, r1 rs2, r2]
  generalize (rd == 0 || hasRd op) = a1
  generalize (rs1 == 0 || hasRs1 op) = a2
  generalize (rs2 == 0 || hasRs2 op) = a3
  generalize (csr == 0 || hasCsr op) = a4
  generalize (decide (0 ≤ rd) && decide (rd < 32)) = b1
  generalize (decide (0 ≤ rs1) && decide (rs1 < 32)) = b2
  generalize (decide (0 ≤ rs2) && decide (rs2 < 32)) = b3
  generalize (decide (0 ≤ csr) && decide (csr < 4096)) = b4
  simp only [beq_self_eq_true, Bool.true_and, Bool.and_true]
  cases a1 <;> cases a2 <;> cases a3 <;> cases a4 <;> cases b1 <;> cases b2 <;> cases b3 <;> cases b4 <;> rfl
end Go.Proofs.YtdogjmimjjmmaaaDoor
