/-
  What package insn's Class and Size answer: walked whole, for every number, where the listed table's cells stand.
-/
import Derived.Test.YthmanpfooegbcaaDoorRule
namespace Go.Proofs.YthmanpfooegbcaaDoor
open Go.RowKit
/-- The class of an operation, as P2.1 tells it. -/
def clsI (op : Int) : Int :=
  if op < 1 ∨ 70 ≤ op then 0 else if op ≤ 4 then 1 else if op ≤ 10 then 2 else if op ≤ 17 then 3 else if op ≤ 21 then 4 else if op ≤ 34 then 5
  else if op ≤ 49 then 6 else if op ≤ 51 then 7 else if op ≤ 53 then 8 else if op ≤ 59 then 9 else if op ≤ 62 then 10 else if op ≤ 65 then 11 else 12
theorem cls_0 {op : Int} (h : op < 1 ∨ 70 ≤ op) : 0 = clsI op := by
  unfold clsI
  rw [if_pos (by omega)]
theorem cls_1 {op : Int} (h1 : 1 ≤ op) (h2 : op ≤ 4) : 1 = clsI op := by
  unfold clsI
  repeat rw [if_neg (by omega)]
  rw [if_pos (by omega)]
theorem cls_2 {op : Int} (h1 : 5 ≤ op) (h2 : op ≤ 10) : 2 = clsI op := by
  unfold clsI
  repeat rw [if_neg (by omega)]
  rw [if_pos (by omega)]
theorem cls_3 {op : Int} (h1 : 11 ≤ op) (h2 : op ≤ 17) : 3 = clsI op := by
  unfold clsI
  repeat rw [if_neg (by omega)]
  rw [if_pos (by omega)]
theorem cls_4 {op : Int} (h1 : 18 ≤ op) (h2 : op ≤ 21) : 4 = clsI op := by
  unfold clsI
  repeat rw [if_neg (by omega)]
  rw [if_pos (by omega)]
theorem cls_5 {op : Int} (h1 : 22 ≤ op) (h2 : op ≤ 34) : 5 = clsI op := by
  unfold clsI
  repeat rw [if_neg (by omega)]
  rw [if_pos (by omega)]
theorem cls_6 {op : Int} (h1 : 35 ≤ op) (h2 : op ≤ 49) : 6 = clsI op := by
  unfold clsI
  repeat rw [if_neg (by omega)]
  rw [if_pos (by omega)]
theorem cls_7 {op : Int} (h1 : 50 ≤ op) (h2 : op ≤ 51) : 7 = clsI op := by
  unfold clsI
  repeat rw [if_neg (by omega)]
  rw [if_pos (by omega)]
theorem cls_8 {op : Int} (h1 : 52 ≤ op) (h2 : op ≤ 53) : 8 = clsI op := by
  unfold clsI
  repeat rw [if_neg (by omega)]
  rw [if_pos (by omega)]
theorem cls_9 {op : Int} (h1 : 54 ≤ op) (h2 : op ≤ 59) : 9 = clsI op := by
  unfold clsI
  repeat rw [if_neg (by omega)]
  rw [if_pos (by omega)]
theorem cls_10 {op : Int} (h1 : 60 ≤ op) (h2 : op ≤ 62) : 10 = clsI op := by
  unfold clsI
  repeat rw [if_neg (by omega)]
  rw [if_pos (by omega)]
theorem cls_11 {op : Int} (h1 : 63 ≤ op) (h2 : op ≤ 65) : 11 = clsI op := by
  unfold clsI
  repeat rw [if_neg (by omega)]
  rw [if_pos (by omega)]
theorem cls_12 {op : Int} (h1 : 66 ≤ op) (h2 : op ≤ 69) : 12 = clsI op := by
  unfold clsI
  repeat rw [if_neg (by omega)]
/-- The bytes of an operation's access, as P2.1 tells them. -/
def szI (op : Int) : Int :=
  if op = 11 ∨ op = 15 ∨ op = 18 then 1 else if op = 12 ∨ op = 16 ∨ op = 19 then 2 else if op = 13 ∨ op = 17 ∨ op = 20 ∨ op = 66 ∨ op = 68 then 4
  else if op = 14 ∨ op = 21 ∨ op = 67 ∨ op = 69 then 8 else 0
theorem sz_1 {op : Int} (h : op = 11 ∨ op = 15 ∨ op = 18) : 1 = szI op := by
  unfold szI
  rw [if_pos h]
theorem sz_2 {op : Int} (h : op = 12 ∨ op = 16 ∨ op = 19) : 2 = szI op := by
  unfold szI
  rw [if_neg (by omega), if_pos h]
theorem sz_4 {op : Int} (h : op = 13 ∨ op = 17 ∨ op = 20 ∨ op = 66 ∨ op = 68) : 4 = szI op := by
  unfold szI
  rw [if_neg (by omega), if_neg (by omega), if_pos h]
theorem sz_8 {op : Int} (h : op = 14 ∨ op = 21 ∨ op = 67 ∨ op = 69) : 8 = szI op := by
  unfold szI
  rw [if_neg (by omega), if_neg (by omega), if_neg (by omega), if_pos h]
theorem sz_0 {op : Int} (h1 : ¬ (op = 11 ∨ op = 15 ∨ op = 18)) (h2 : ¬ (op = 12 ∨ op = 16 ∨ op = 19)) (h4 : ¬ (op = 13 ∨ op = 17 ∨ op = 20 ∨ op = 66 ∨ op = 68)) (h8 : ¬ (op = 14 ∨ op = 21 ∨ op = 67 ∨ op = 69)) : 0 = szI op := by
  unfold szI
  rw [if_neg h1, if_neg h2, if_neg h4, if_neg h8]
/-- What is said of the numbers from 0 to 69, and of all others, is said of every number. -/
theorem op_cases {p : Int → Prop} (hin : ∀ k : Fin 70, p (k.val : Int)) (hout : ∀ op : Int, op < 0 ∨ 70 ≤ op → p op) (op : Int) : p op := by
  by_cases h : op < 0 ∨ 70 ≤ op
  · exact hout op h
  · have e := hin ⟨op.toNat, by omega⟩
    rwa [show ((op.toNat : Nat) : Int) = op by omega] at e
theorem cls_out {op : Int} (h : op < 0 ∨ 70 ≤ op) : clsI op = 0 := (cls_0 (by omega)).symm
/-- Which row of the table an operation has. -/
def gOf (op : Int) : Nat := (List.range 19).findIdx (fun k => decide (gN k 0 ≤ op ∧ op ≤ gN k 1))
def rI (op : Int) (j : Nat) : Int := if gOf op < 19 then gN (gOf op) (2 + j) else 0
theorem gOf_no (op : Int) (j : Nat) (h : j < gOf op) : ¬ (gN j 0 ≤ op ∧ op ≤ gN j 1) := by
  have e := List.not_of_lt_findIdx (xs := List.range 19) (p := fun k => decide (gN k 0 ≤ op ∧ op ≤ gN k 1)) h
  simpa using e
theorem gOf_yes (op : Int) (h : gOf op < 19) : gN (gOf op) 0 ≤ op ∧ op ≤ gN (gOf op) 1 := by
  have e := List.findIdx_getElem (xs := List.range 19) (p := fun k => decide (gN k 0 ≤ op ∧ op ≤ gN k 1)) (w := by rw [List.length_range]; exact h)
  simpa [gOf] using e
theorem g_bounds (k : Nat) (hk : k < 19) : 1 ≤ gN k 0 ∧ gN k 1 ≤ 69 ∧ 0 < gN k 6 := by
  have : ∀ k : Fin 19, 1 ≤ gN k.val 0 ∧ gN k.val 1 ≤ 69 ∧ 0 < gN k.val 6 := by decide +kernel
  exact this ⟨k, hk⟩
theorem gOf_out {op : Int} (h : op < 0 ∨ 70 ≤ op) : gOf op = 19 := by
  have hle : gOf op ≤ 19 := by simpa [gOf] using List.findIdx_le_length (xs := List.range 19) (p := fun k => decide (gN k 0 ≤ op ∧ op ≤ gN k 1))
  by_cases hlt : gOf op < 19
  · have := gOf_yes op hlt
    have := g_bounds _ hlt
    omega
  · omega
theorem rI_out {op : Int} (h : op < 0 ∨ 70 ≤ op) (j : Nat) : rI op j = 0 := by
  unfold rI; rw [gOf_out h]; rfl
theorem rule_any (op : Int) (w : World) (hT : TabI w) :
    Calls Tryd.prog 41 #[.int .i64 op] w fun e w' => e = .returned (.agg #[.int .i64 (rI op 0), .int .i64 (rI op 1), .int .i64 (rI op 2), .int .i64 (rI op 3), .int .i64 (rI op 4)]) ∧ Grown w w' := by
  by_cases h : gOf op < 19
  · have e : ∀ j, rI op j = gN (gOf op) (2 + j) := fun j => by unfold rI; rw [if_pos h]
    simp only [e]
    exact rule_hit op (gOf op) h (fun j hj => gOf_no op j hj) (gOf_yes op h).1 (gOf_yes op h).2 w hT
  · have e : ∀ j, rI op j = 0 := fun j => by unfold rI; rw [if_neg h]
    simp only [e]
    exact rule_none op (fun j hj => gOf_no op j (by omega)) w hT
theorem rI_cls (op : Int) : rI op 0 = clsI op :=
  op_cases (p := fun op => rI op 0 = clsI op) (by decide +kernel) (fun op h => by rw [rI_out h, cls_out h]) op
theorem class_in (op : Int) (w : World) (hT : TabI w) :
    Calls Tryd.prog 29 #[.int .i64 op] w fun e w' => e = .returned (.int .i64 (clsI op)) ∧ Grown w w' := by
  have hf : ∀ (a b c d e : Value) (w : World), (Instr.field 70 (.agg #[a, b, c, d, e]) 0).run Tryd.prog w = .ok a w := fun _ _ _ _ _ _ => by kernel_rfl
  rw [← rI_cls op]
  go_enter Tryd.func29, Tryd.ntmps29
  go_wp2_with (go_at_call 41; refine (rule_any _ _ hT).mono ?_; rintro e w' ⟨rfl, hg⟩)
  go_ret
  exact ⟨rfl, hg⟩
end Go.Proofs.YthmanpfooegbcaaDoor
