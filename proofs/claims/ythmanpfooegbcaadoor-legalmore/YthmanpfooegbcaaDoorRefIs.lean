/-
  What the document's Class, Parts, Is answer (the reference of layers 2 to 4): walked whole, for every operation and instruction.
-/
import Derived.Test.YthmanpfooegbcaaDoorCls
namespace Go.Proofs.YthmanpfooegbcaaDoor
open Go.RowKit
/-- The six cells of an instruction that lies in a block of its own. -/
structure Six (w : World) (b : Nat) (op rd rs1 rs2 imm csr : Int) : Prop where
  c0 : w.cell? ⟨b, 0, none⟩ = some (.int .i64 op)
  c1 : w.cell? ⟨b, 1, none⟩ = some (.int .i64 rd)
  c2 : w.cell? ⟨b, 2, none⟩ = some (.int .i64 rs1)
  c3 : w.cell? ⟨b, 3, none⟩ = some (.int .i64 rs2)
  c4 : w.cell? ⟨b, 4, none⟩ = some (.int .i64 imm)
  c5 : w.cell? ⟨b, 5, none⟩ = some (.int .i64 csr)
theorem Six.new (w : World) (t : TypeId) (op rd rs1 rs2 imm csr : Int) :
    Six (w.alloc (.cells #[.int .i64 op, .int .i64 rd, .int .i64 rs1, .int .i64 rs2, .int .i64 imm, .int .i64 csr] t)) w.heap.size op rd rs1 rs2 imm csr := by
  constructor <;> simp
theorem Six.grown {w w' : World} {b : Nat} {op rd rs1 rs2 imm csr : Int} (h : Six w b op rd rs1 rs2 imm csr) (g : Grown w w') : Six w' b op rd rs1 rs2 imm csr :=
  ⟨Grown.cell g h.c0, Grown.cell g h.c1, Grown.cell g h.c2, Grown.cell g h.c3, Grown.cell g h.c4, Grown.cell g h.c5⟩
set_option maxHeartbeats 1000000 in
theorem rclass_any (op : Int) (w : World) :
    Calls Tryd.prog 18 #[.int .i64 op] w fun e w' => e = .returned (.int .i64 (clsI op)) ∧ w' = w := by
  go_enter Tryd.func18, Tryd.ntmps18
  go_wp2
  all_goals
    go_ret
    refine ⟨ret_int ?_, rfl⟩
    go_light
    first | exact cls_0 (by omega) | exact cls_1 (by omega) (by omega) | exact cls_2 (by omega) (by omega) | exact cls_3 (by omega) (by omega) | exact cls_4 (by omega) (by omega) | exact cls_5 (by omega) (by omega) | exact cls_6 (by omega) (by omega) | exact cls_7 (by omega) (by omega) | exact cls_8 (by omega) (by omega) | exact cls_9 (by omega) (by omega) | exact cls_10 (by omega) (by omega) | exact cls_11 (by omega) (by omega) | exact cls_12 (by omega) (by omega)
def hasRd (op : Int) : Bool := decide (1 ≤ op ∧ op ≤ 4 ∨ 11 ≤ op ∧ op ≤ 17 ∨ 22 ≤ op ∧ op ≤ 49 ∨ 54 ≤ op ∧ op ≤ 59 ∨ 66 ≤ op ∧ op ≤ 68)
def hasRs1 (op : Int) : Bool := decide (4 ≤ op ∧ op ≤ 49 ∨ 54 ≤ op ∧ op ≤ 56 ∨ 63 ≤ op ∧ op ≤ 69)
def hasRs2 (op : Int) : Bool := decide (5 ≤ op ∧ op ≤ 10 ∨ 18 ≤ op ∧ op ≤ 21 ∨ 35 ≤ op ∧ op ≤ 49 ∨ 63 ≤ op ∧ op ≤ 65 ∨ op = 69)
def hasCsr (op : Int) : Bool := decide (54 ≤ op ∧ op ≤ 59)
def hasNum (op : Int) : Bool := decide (1 ≤ op ∧ op ≤ 34 ∨ 57 ≤ op ∧ op ≤ 59)
theorem ret_five {a b c d e a' b' c' d' e' : Bool} (h1 : a = a') (h2 : b = b') (h3 : c = c') (h4 : d = d') (h5 : e = e') :
    Ending.returned (.tuple #[.bool a, .bool b, .bool c, .bool d, .bool e]) = .returned (.tuple #[.bool a', .bool b', .bool c', .bool d', .bool e']) := by rw [h1, h2, h3, h4, h5]
theorem rd_out {op : Int} (h : op < 0 ∨ 70 ≤ op) : hasRd op = false := by
  unfold hasRd; exact decide_eq_false (by omega)
theorem rs1_out {op : Int} (h : op < 0 ∨ 70 ≤ op) : hasRs1 op = false := by
  unfold hasRs1; exact decide_eq_false (by omega)
theorem rs2_out {op : Int} (h : op < 0 ∨ 70 ≤ op) : hasRs2 op = false := by
  unfold hasRs2; exact decide_eq_false (by omega)
theorem csr_out {op : Int} (h : op < 0 ∨ 70 ≤ op) : hasCsr op = false := by
  unfold hasCsr; exact decide_eq_false (by omega)
theorem num_out {op : Int} (h : op < 0 ∨ 70 ≤ op) : hasNum op = false := by
  unfold hasNum; exact decide_eq_false (by omega)
def partsOf (c op : Int) : Bool × Bool × Bool × Bool × Bool :=
  if c = 1 then (true, op == 4, false, false, true) else if c = 2 then (false, true, true, false, true) else if c = 4 then (false, true, true, false, true)
  else if c = 3 then (true, true, false, false, true) else if c = 5 then (true, true, false, false, true) else if c = 6 then (true, true, true, false, false)
  else if c = 9 then (true, !decide (57 ≤ op), false, true, decide (57 ≤ op)) else if c = 11 then (false, true, true, false, false)
  else if c = 12 then (op != 69, true, op == 69, false, false) else (false, false, false, false, false)
theorem parts_of (op : Int) : partsOf (clsI op) op = (hasRd op, hasRs1 op, hasRs2 op, hasCsr op, hasNum op) := by
  refine op_cases (p := fun op => partsOf (clsI op) op = (hasRd op, hasRs1 op, hasRs2 op, hasCsr op, hasNum op)) (by decide +kernel) (fun op h => ?_) op
  rw [cls_out h, rd_out h, rs1_out h, rs2_out h, csr_out h, num_out h]
  rfl
theorem results_five {fn : Func} {t u v x y : Tmp} (h : fn.results = #[.tmp t, .tmp u, .tmp v, .tmp x, .tmp y]) (tmps : Array Value) (P : Program) (w : World) :
    (results fn tmps).run P w = .ok (.tuple #[tmps.getD t undef, tmps.getD u undef, tmps.getD v undef, tmps.getD x undef, tmps.getD y undef]) w := by
  simp [results, h]
set_option maxHeartbeats 1000000 in
theorem rparts_any (op : Int) (w : World) :
    Calls Tryd.prog 36 #[.int .i64 op] w fun e w' => e = .returned (.tuple #[.bool (hasRd op), .bool (hasRs1 op), .bool (hasRs2 op), .bool (hasCsr op), .bool (hasNum op)]) ∧ w' = w := by
  go_enter Tryd.func36, Tryd.ntmps36
  go_wp2_with (go_at_call 18; refine (rclass_any _ _).mono ?_; rintro e w' ⟨rfl, rfl⟩)
  all_goals
    refine bodyPost_ret (results_five (t := 2) (u := 3) (v := 4) (x := 5) (y := 6) rfl _ _ _) rfl ⟨ret_five ?_ ?_ ?_ ?_ ?_, rfl⟩
  all_goals
    go_light
    try simp only [beq_iff_eq, beq_eq_false_iff_ne, ne_eq] at *
    have e := parts_of op
    simp only [partsOf, *, Int.reduceEq, if_true, if_false, Prod.mk.injEq] at e
    first | exact e.1 | exact e.2.1 | exact e.2.2.1 | exact e.2.2.2.1 | exact e.2.2.2.2
def regB (r : Int) (has : Bool) : Bool := r == 0 || has && (decide (0 < r) && decide (r < 32))
set_option maxHeartbeats 400000 in
theorem rreg_any (r : Int) (has : Bool) (w : World) :
    Calls Tryd.prog 37 #[.int .i64 r, .bool has] w fun e w' => e = .returned (.bool (regB r has)) ∧ w' = w := by
  go_enter Tryd.func37, Tryd.ntmps37
  go_wp2
  all_goals
    go_ret
    refine ⟨ret_bool ?_, rfl⟩
    go_light
    unfold regB
    simp_all
  all_goals omega
def withinB (n lo hi st : Int) : Bool := decide (lo ≤ n) && decide (n ≤ hi) && (n.tmod st == 0)
set_option maxHeartbeats 400000 in
theorem rwithin_any (n lo hi st : Int) (hs : 0 < st) (w : World) :
    Calls Tryd.prog 45 #[.int .i64 n, .int .i64 lo, .int .i64 hi, .int .i64 st] w fun e w' => e = .returned (.bool (withinB n lo hi st)) ∧ w' = w := by
  go_enter Tryd.func45, Tryd.ntmps45
  go_wp2
  all_goals
    go_ret
    refine ⟨ret_bool ?_, rfl⟩
    go_light
    simp [withinB]
    try omega
/-- An instruction, as a value. -/
def insnV (op rd rs1 rs2 imm csr : Int) : Value := .agg #[.int .i64 op, .int .i64 rd, .int .i64 rs1, .int .i64 rs2, .int .i64 imm, .int .i64 csr]
def numB (op imm : Int) : Bool :=
  if op ≤ 2 then withinB imm (-2147483648) 2147479552 4096 else if op = 3 then withinB imm (-1048576) 1048574 2 else if clsI op = 2 then withinB imm (-4096) 4094 2
  else if 28 ≤ op ∧ op ≤ 30 then withinB imm 0 63 1 else if (32 ≤ op ∧ op ≤ 34) ∨ clsI op = 9 then withinB imm 0 31 1 else withinB imm (-2048) 2047 1
theorem num_1 {op imm : Int} (h : op ≤ 2) : withinB imm (-2147483648) 2147479552 4096 = numB op imm := by
  unfold numB; rw [if_pos h]
theorem num_2 {op imm : Int} (h : op = 3) : withinB imm (-1048576) 1048574 2 = numB op imm := by
  unfold numB; rw [if_neg (by omega), if_pos h]
theorem num_3 {op imm : Int} (h0 : ¬ op ≤ 2) (h1 : ¬ op = 3) (h : clsI op = 2) : withinB imm (-4096) 4094 2 = numB op imm := by
  unfold numB; rw [if_neg h0, if_neg h1, if_pos h]
theorem num_4 {op imm : Int} (h2 : ¬ clsI op = 2) (h : 28 ≤ op ∧ op ≤ 30) : withinB imm 0 63 1 = numB op imm := by
  unfold numB; rw [if_neg (by omega), if_neg (by omega), if_neg h2, if_pos h]
theorem num_5 {op imm : Int} (h0 : ¬ op ≤ 2) (h1 : ¬ op = 3) (h2 : ¬ clsI op = 2) (h3 : ¬ (28 ≤ op ∧ op ≤ 30)) (h : (32 ≤ op ∧ op ≤ 34) ∨ clsI op = 9) : withinB imm 0 31 1 = numB op imm := by
  unfold numB; rw [if_neg h0, if_neg h1, if_neg h2, if_neg h3, if_pos h]
theorem num_6 {op imm : Int} (h0 : ¬ op ≤ 2) (h1 : ¬ op = 3) (h2 : ¬ clsI op = 2) (h3 : ¬ (28 ≤ op ∧ op ≤ 30)) (h : ¬ ((32 ≤ op ∧ op ≤ 34) ∨ clsI op = 9)) : withinB imm (-2048) 2047 1 = numB op imm := by
  unfold numB; rw [if_neg h0, if_neg h1, if_neg h2, if_neg h3, if_neg h]
set_option maxHeartbeats 1000000 in
theorem rnumber_any (op rd rs1 rs2 imm csr : Int) (w : World) :
    Calls Tryd.prog 38 #[.agg #[.int .i64 op, .int .i64 rd, .int .i64 rs1, .int .i64 rs2, .int .i64 imm, .int .i64 csr]] w fun e w' => e = .returned (.bool (numB op imm)) ∧ Grown w w' := by
  go_enter Tryd.func38, Tryd.ntmps38
  go_wp2_with (first | (go_at_call 18; refine (rclass_any _ _).mono ?_; rintro e w' ⟨rfl, rfl⟩) | (go_at_call 45; refine (rwithin_any _ _ _ _ (by decide) _).mono ?_; rintro e w' ⟨rfl, rfl⟩))
  all_goals
    go_ret
    refine ⟨ret_bool ?_, (Grown.refl _).alloc _ _⟩
    go_light
    try simp only [beq_iff_eq, beq_eq_false_iff_ne, ne_eq] at *
    first | exact num_1 (by omega) | exact num_2 (by omega) | exact num_3 (by omega) (by omega) (by omega) | exact num_4 (by omega) (by omega) | exact num_5 (by omega) (by omega) (by omega) (by omega) (by omega) | exact num_6 (by omega) (by omega) (by omega) (by omega) (by omega)
def csrB (r : Int) (has : Bool) : Bool := r == 0 || has && (decide (0 ≤ r) && decide (r ≤ 4095))
def immB (op imm : Int) : Bool := if hasNum op then numB op imm else imm == 0
/-- Whether it is an instruction, as P2.2 tells it. -/
def isB (op rd rs1 rs2 imm csr : Int) : Bool := clsI op != 0 && (regB rd (hasRd op) && (regB rs1 (hasRs1 op) && (regB rs2 (hasRs2 op) && (csrB csr (hasCsr op) && immB op imm))))
theorem is_ways (op rd rs1 rs2 imm csr : Int) :
    (clsI op == 0) = true ∧ isB op rd rs1 rs2 imm csr = false ∨ (clsI op == 0) = false ∧ (
    regB rd (hasRd op) = false ∧ isB op rd rs1 rs2 imm csr = false ∨ regB rd (hasRd op) = true ∧ (
    regB rs1 (hasRs1 op) = false ∧ isB op rd rs1 rs2 imm csr = false ∨ regB rs1 (hasRs1 op) = true ∧ (
    regB rs2 (hasRs2 op) = false ∧ isB op rd rs1 rs2 imm csr = false ∨ regB rs2 (hasRs2 op) = true ∧ (
    (¬ csr = 0 ∧ hasCsr op = false) ∧ isB op rd rs1 rs2 imm csr = false ∨ (¬ csr = 0 ∧ hasCsr op = true ∧ csr < 0) ∧ isB op rd rs1 rs2 imm csr = false ∨
    (¬ csr = 0 ∧ hasCsr op = true ∧ ¬ csr < 0 ∧ csr > 4095) ∧ isB op rd rs1 rs2 imm csr = false ∨
    (csr = 0 ∨ ¬ csr = 0 ∧ hasCsr op = true ∧ ¬ csr < 0 ∧ ¬ csr > 4095) ∧ (
    hasNum op = false ∧ isB op rd rs1 rs2 imm csr = (imm == 0) ∨ hasNum op = true ∧ isB op rd rs1 rs2 imm csr = numB op imm))))) := by
  unfold isB csrB immB
  cases h0 : clsI op == 0
  · cases h1 : regB rd (hasRd op)
    · simp
    cases h2 : regB rs1 (hasRs1 op)
    · simp
    cases h3 : regB rs2 (hasRs2 op)
    · simp
    cases h4 : hasCsr op <;> cases h5 : hasNum op <;> by_cases h6 : csr = 0 <;> simp [h6, bne, h0] <;> by_cases h7 : csr < 0 <;> by_cases h8 : csr > 4095 <;> simp [h7, h8] <;> omega
  · simp at h0
    simp [h0]
set_option maxHeartbeats 2000000 in
theorem ris_any (op rd rs1 rs2 imm csr : Int) (w : World) :
    Calls Tryd.prog 19 #[.agg #[.int .i64 op, .int .i64 rd, .int .i64 rs1, .int .i64 rs2, .int .i64 imm, .int .i64 csr]] w fun e w' => e = .returned (.bool (isB op rd rs1 rs2 imm csr)) ∧ Grown w w' := by
  rcases is_ways op rd rs1 rs2 imm csr with ⟨h0, hb⟩ | ⟨h0, ⟨h1, hb⟩ | ⟨h1, ⟨h2, hb⟩ | ⟨h2, ⟨h3, hb⟩ | ⟨h3, ⟨⟨h4, h5⟩, hb⟩ | ⟨⟨h4, h5, h6⟩, hb⟩ | ⟨⟨h4, h5, h6, h7⟩, hb⟩ | ⟨rfl | ⟨h4, h5, h6, h7⟩, ⟨h8, hb⟩ | ⟨h8, hb⟩⟩⟩⟩⟩⟩
  all_goals
    rw [hb]
    clear hb
    go_enter Tryd.func19, Tryd.ntmps19
    go_wp2_with (first | (go_at_call 18; refine (rclass_any _ _).mono ?_; rintro e w' ⟨rfl, rfl⟩) | (go_at_call 36; refine (rparts_any _ _).mono ?_; rintro e w' ⟨rfl, rfl⟩) | (go_at_call 37; refine (rreg_any _ _ _).mono ?_; rintro e w' ⟨rfl, rfl⟩) | (go_at_call 38; refine (rnumber_any _ _ _ _ _ _ _).mono ?_; rintro e w' ⟨rfl, hg⟩))
  all_goals
    go_ret
    refine ⟨rfl, ?_⟩
    first | exact (Grown.refl _).alloc _ _ | exact Grown.trans' ((Grown.refl _).alloc _ _) hg
end Go.Proofs.YthmanpfooegbcaaDoor
