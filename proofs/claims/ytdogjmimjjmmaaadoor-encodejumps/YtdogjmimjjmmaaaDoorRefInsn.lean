/-
  What the document's instructions (the reference of layers 2 to 4) answer: Class, Size, Parts, Is, Writes, Reads: walked whole, for every argument.
-/
import Derived.Test.YtdogjmimjjmmaaaDoorRows
import Derived.WalkKit
import Derived.WalkSpells
import Derived.WalkLawsBesides
import Derived.Deep.Light
namespace Go.Proofs.YtdogjmimjjmmaaaDoor
open Go.RowKit
theorem ret_int {k : IntKind} {a b : Int} (h : a = b) : Ending.returned (.int k a) = .returned (.int k b) := by rw [h]
theorem ret_bool {a b : Bool} (h : a = b) : Ending.returned (.bool a) = .returned (.bool b) := by rw [h]
theorem Grown.trans' {a b c : World} (h : Grown a b) (g : Grown b c) : Grown a c :=
  ⟨World.keptBut_trans h.1 (World.keptBut_mono (fun _ f => f.elim) g.1), fun x => (g.2.1 x).trans (h.2.1 x), Nat.le_trans h.2.2 g.2.2⟩
theorem Grown.cell {a b : World} (h : Grown a b) {n i : Nat} {v : Value} (hv : a.cell? ⟨n, i, none⟩ = some v) : b.cell? ⟨n, i, none⟩ = some v := by
  have hlt : n < a.heap.size := by
    apply Classical.byContradiction
    intro hn
    rw [World.cell?] at hv
    simp [Array.getElem?_eq_none (show a.heap.size ≤ n by omega)] at hv
  rw [← hv]
  exact h.1.cell hlt (fun f => f)
/-- The six cells of an instruction that lies in a block of its own. -/
structure Six (w : World) (b : Nat) (op rd rs1 rs2 imm csr : Int) : Prop where
  c0 : w.cell? ⟨b, 0, none⟩ = some (.int .i64 op)
  c1 : w.cell? ⟨b, 1, none⟩ = some (.int .i64 rd)
  c2 : w.cell? ⟨b, 2, none⟩ = some (.int .i64 rs1)
  c3 : w.cell? ⟨b, 3, none⟩ = some (.int .i64 rs2)
  c4 : w.cell? ⟨b, 4, none⟩ = some (.int .i64 imm)
  c5 : w.cell? ⟨b, 5, none⟩ = some (.int .i64 csr)
theorem Six.new (w : World) (t : TypeId) (op rd rs1 rs2 imm csr : Int) :
    Six (w.alloc (.cells #[.int .i64 op, .int .i64 rd, .int .i64 rs1, .int .i64 rs2, .int .i64 imm, .int .i64 csr] t)) w.heap.size op rd rs1 rs2 imm csr := by
  constructor <;> simp
theorem Six.grown {w w' : World} {b : Nat} {op rd rs1 rs2 imm csr : Int} (h : Six w b op rd rs1 rs2 imm csr) (g : Grown w w') : Six w' b op rd rs1 rs2 imm csr :=
  ⟨Grown.cell g h.c0, Grown.cell g h.c1, Grown.cell g h.c2, Grown.cell g h.c3, Grown.cell g h.c4, Grown.cell g h.c5⟩
/-- The class of an operation, as P2.1 tells it. -/
def clsI (op : Int) : Int :=
  if op < 1 ∨ 70 ≤ op then 0 else if op ≤ 4 then 1 else if op ≤ 10 then 2 else if op ≤ 17 then 3 else if op ≤ 21 then 4 else if op ≤ 34 then 5
  else if op ≤ 49 then 6 else if op ≤ 51 then 7 else if op ≤ 53 then 8 else if op ≤ 59 then 9 else if op ≤ 62 then 10 else if op ≤ 65 then 11 else 12
theorem cls_0 {op : Int} (h : op < 1 ∨ 70 ≤ op) : 0 = clsI op := by
  unfold clsI
  rw [if_pos (by omega)]
theorem cls_1 {op : Int} (h1 : 1 ≤ op) (h2 : op ≤ 4) : 1 = clsI op := by
  unfold clsI
  repeat rw [if_neg (by omega)]
  rw [if_pos (by omega)]
theorem cls_2 {op : Int} (h1 : 5 ≤ op) (h2 : op ≤ 10) : 2 = clsI op := by
  unfold clsI
  repeat rw [if_neg (by omega)]
  rw [if_pos (by omega)]
theorem cls_3 {op : Int} (h1 : 11 ≤ op) (h2 : op ≤ 17) : 3 = clsI op := by
  unfold clsI
  repeat rw [if_neg (by omega)]
  rw [if_pos (by omega)]
theorem cls_4 {op : Int} (h1 : 18 ≤ op) (h2 : op ≤ 21) : 4 = clsI op := by
  unfold clsI
  repeat rw [if_neg (by omega)]
  rw [if_pos (by omega)]
theorem cls_5 {op : Int} (h1 : 22 ≤ op) (h2 : op ≤ 34) : 5 = clsI op := by
  unfold clsI
  repeat rw [if_neg (by omega)]
  rw [if_pos (by omega)]
theorem cls_6 {op : Int} (h1 : 35 ≤ op) (h2 : op ≤ 49) : 6 = clsI op := by
  unfold clsI
  repeat rw [if_neg (by omega)]
  rw [if_pos (by omega)]
theorem cls_7 {op : Int} (h1 : 50 ≤ op) (h2 : op ≤ 51) : 7 = clsI op := by
  unfold clsI
  repeat rw [if_neg (by omega)]
  rw [if_pos (by omega)]
theorem cls_8 {op : Int} (h1 : 52 ≤ op) (h2 : op ≤ 53) : 8 = clsI op := by
  unfold clsI
  repeat rw [if_neg (by omega)]
  rw [if_pos (by omega)]
theorem cls_9 {op : Int} (h1 : 54 ≤ op) (h2 : op ≤ 59) : 9 = clsI op := by
  unfold clsI
  repeat rw [if_neg (by omega)]
  rw [if_pos (by omega)]
theorem cls_10 {op : Int} (h1 : 60 ≤ op) (h2 : op ≤ 62) : 10 = clsI op := by
  unfold clsI
  repeat rw [if_neg (by omega)]
  rw [if_pos (by omega)]
theorem cls_11 {op : Int} (h1 : 63 ≤ op) (h2 : op ≤ 65) : 11 = clsI op := by
  unfold clsI
  repeat rw [if_neg (by omega)]
  rw [if_pos (by omega)]
theorem cls_12 {op : Int} (h1 : 66 ≤ op) (h2 : op ≤ 69) : 12 = clsI op := by
  unfold clsI
  repeat rw [if_neg (by omega)]
set_option maxHeartbeats 1000000 in
theorem rclass_any (op : Int) (w : World) :
    Calls Tryd.prog 24 #[.int .i64 op] w fun e w' => e = .returned (.int .i64 (clsI op)) ∧ w' = w := by
  go_enter Tryd.func24, Tryd.ntmps24
  go_wp2
  all_goals
    go_ret
    refine ⟨ret_int ?_, rfl⟩
    go_light
    first | exact cls_0 (by omega) | exact cls_1 (by omega) (by omega) | exact cls_2 (by omega) (by omega) | exact cls_3 (by omega) (by omega) | exact cls_4 (by omega) (by omega) | exact cls_5 (by omega) (by omega) | exact cls_6 (by omega) (by omega) | exact cls_7 (by omega) (by omega) | exact cls_8 (by omega) (by omega) | exact cls_9 (by omega) (by omega) | exact cls_10 (by omega) (by omega) | exact cls_11 (by omega) (by omega) | exact cls_12 (by omega) (by omega)
/-- The bytes of an operation's access, as P2.1 tells them. -/
def szI (op : Int) : Int :=
  if op = 11 ∨ op = 15 ∨ op = 18 then 1 else if op = 12 ∨ op = 16 ∨ op = 19 then 2 else if op = 13 ∨ op = 17 ∨ op = 20 ∨ op = 66 ∨ op = 68 then 4
  else if op = 14 ∨ op = 21 ∨ op = 67 ∨ op = 69 then 8 else 0
theorem sz_1 {op : Int} (h : op = 11 ∨ op = 15 ∨ op = 18) : 1 = szI op := by
  unfold szI
  rw [if_pos h]
theorem sz_2 {op : Int} (h : op = 12 ∨ op = 16 ∨ op = 19) : 2 = szI op := by
  unfold szI
  rw [if_neg (by omega), if_pos h]
theorem sz_4 {op : Int} (h : op = 13 ∨ op = 17 ∨ op = 20 ∨ op = 66 ∨ op = 68) : 4 = szI op := by
  unfold szI
  rw [if_neg (by omega), if_neg (by omega), if_pos h]
theorem sz_8 {op : Int} (h : op = 14 ∨ op = 21 ∨ op = 67 ∨ op = 69) : 8 = szI op := by
  unfold szI
  rw [if_neg (by omega), if_neg (by omega), if_neg (by omega), if_pos h]
theorem sz_0 {op : Int} (h1 : ¬ (op = 11 ∨ op = 15 ∨ op = 18)) (h2 : ¬ (op = 12 ∨ op = 16 ∨ op = 19)) (h4 : ¬ (op = 13 ∨ op = 17 ∨ op = 20 ∨ op = 66 ∨ op = 68)) (h8 : ¬ (op = 14 ∨ op = 21 ∨ op = 67 ∨ op = 69)) : 0 = szI op := by
  unfold szI
  rw [if_neg h1, if_neg h2, if_neg h4, if_neg h8]
def hasRd (op : Int) : Bool := decide (1 ≤ op ∧ op ≤ 4 ∨ 11 ≤ op ∧ op ≤ 17 ∨ 22 ≤ op ∧ op ≤ 49 ∨ 54 ≤ op ∧ op ≤ 59 ∨ 66 ≤ op ∧ op ≤ 68)
def hasRs1 (op : Int) : Bool := decide (4 ≤ op ∧ op ≤ 49 ∨ 54 ≤ op ∧ op ≤ 56 ∨ 63 ≤ op ∧ op ≤ 69)
def hasRs2 (op : Int) : Bool := decide (5 ≤ op ∧ op ≤ 10 ∨ 18 ≤ op ∧ op ≤ 21 ∨ 35 ≤ op ∧ op ≤ 49 ∨ 63 ≤ op ∧ op ≤ 65 ∨ op = 69)
def hasCsr (op : Int) : Bool := decide (54 ≤ op ∧ op ≤ 59)
def hasNum (op : Int) : Bool := decide (1 ≤ op ∧ op ≤ 34 ∨ 57 ≤ op ∧ op ≤ 59)
theorem ret_five {a b c d e a' b' c' d' e' : Bool} (h1 : a = a') (h2 : b = b') (h3 : c = c') (h4 : d = d') (h5 : e = e') :
    Ending.returned (.tuple #[.bool a, .bool b, .bool c, .bool d, .bool e]) = .returned (.tuple #[.bool a', .bool b', .bool c', .bool d', .bool e']) := by rw [h1, h2, h3, h4, h5]
/-- What is said of the numbers from 0 to 69, and of all others, is said of every number. -/
theorem op_cases {p : Int → Prop} (hin : ∀ k : Fin 70, p (k.val : Int)) (hout : ∀ op : Int, op < 0 ∨ 70 ≤ op → p op) (op : Int) : p op := by
  by_cases h : op < 0 ∨ 70 ≤ op
  · exact hout op h
  · have e := hin ⟨op.toNat, by omega⟩
    rwa [show ((op.toNat : Nat) : Int) = op by omega] at e
theorem cls_out {op : Int} (h : op < 0 ∨ 70 ≤ op) : clsI op = 0 := (cls_0 (by omega)).symm
theorem rd_out {op : Int} (h : op < 0 ∨ 70 ≤ op) : hasRd op = false := by
  unfold hasRd; exact decide_eq_false (by omega)
theorem rs1_out {op : Int} (h : op < 0 ∨ 70 ≤ op) : hasRs1 op = false := by
  unfold hasRs1; exact decide_eq_false (by omega)
theorem rs2_out {op : Int} (h : op < 0 ∨ 70 ≤ op) : hasRs2 op = false := by
  unfold hasRs2; exact decide_eq_false (by omega)
theorem csr_out {op : Int} (h : op < 0 ∨ 70 ≤ op) : hasCsr op = false := by
  unfold hasCsr; exact decide_eq_false (by omega)
theorem num_out {op : Int} (h : op < 0 ∨ 70 ≤ op) : hasNum op = false := by
  unfold hasNum; exact decide_eq_false (by omega)
def partsOf (c op : Int) : Bool × Bool × Bool × Bool × Bool :=
  if c = 1 then (true, op == 4, false, false, true) else if c = 2 then (false, true, true, false, true) else if c = 4 then (false, true, true, false, true)
  else if c = 3 then (true, true, false, false, true) else if c = 5 then (true, true, false, false, true) else if c = 6 then (true, true, true, false, false)
  else if c = 9 then (true, !decide (57 ≤ op), false, true, decide (57 ≤ op)) else if c = 11 then (false, true, true, false, false)
  else if c = 12 then (op != 69, true, op == 69, false, false) else (false, false, false, false, false)
theorem parts_of (op : Int) : partsOf (clsI op) op = (hasRd op, hasRs1 op, hasRs2 op, hasCsr op, hasNum op) := by
  refine op_cases (p := fun op => partsOf (clsI op) op = (hasRd op, hasRs1 op, hasRs2 op, hasCsr op, hasNum op)) (by decide +kernel) (fun op h => ?_) op
  rw [cls_out h, rd_out h, rs1_out h, rs2_out h, csr_out h, num_out h]
  rfl
theorem results_five {fn : Func} {t u v x y : Tmp} (h : fn.results = #[.tmp t, .tmp u, .tmp v, .tmp x, .tmp y]) (tmps : Array Value) (P : Program) (w : World) :
    (results fn tmps).run P w = .ok (.tuple #[tmps.getD t undef, tmps.getD u undef, tmps.getD v undef, tmps.getD x undef, tmps.getD y undef]) w := by
  simp [results, h]
set_option maxHeartbeats 1000000 in
theorem rparts_any (op : Int) (w : World) :
    Calls Tryd.prog 29 #[.int .i64 op] w fun e w' => e = .returned (.tuple #[.bool (hasRd op), .bool (hasRs1 op), .bool (hasRs2 op), .bool (hasCsr op), .bool (hasNum op)]) ∧ w' = w := by
  go_enter Tryd.func29, Tryd.ntmps29
  go_wp2_with (go_at_call 24; refine (rclass_any _ _).mono ?_; rintro e w' ⟨rfl, rfl⟩)
  all_goals
    refine bodyPost_ret (results_five (t := 2) (u := 3) (v := 4) (x := 5) (y := 6) rfl _ _ _) rfl ⟨ret_five ?_ ?_ ?_ ?_ ?_, rfl⟩
  all_goals
    go_light
    try simp only [beq_iff_eq, beq_eq_false_iff_ne, ne_eq] at *
    have e := parts_of op
    simp only [partsOf, *, Int.reduceEq, if_true, if_false, Prod.mk.injEq] at e
    first | exact e.1 | exact e.2.1 | exact e.2.2.1 | exact e.2.2.2.1 | exact e.2.2.2.2
def regB (r : Int) (has : Bool) : Bool := r == 0 || has && (decide (0 < r) && decide (r < 32))
set_option maxHeartbeats 400000 in
theorem rreg_any (r : Int) (has : Bool) (w : World) :
    Calls Tryd.prog 44 #[.int .i64 r, .bool has] w fun e w' => e = .returned (.bool (regB r has)) ∧ w' = w := by
  go_enter Tryd.func44, Tryd.ntmps44
  go_wp2
  all_goals
    go_ret
    refine ⟨ret_bool ?_, rfl⟩
    go_light
    unfold regB
    simp_all
  all_goals omega
def withinB (n lo hi st : Int) : Bool := decide (lo ≤ n) && decide (n ≤ hi) && (n.tmod st == 0)
set_option maxHeartbeats 400000 in
theorem rwithin_any (n lo hi st : Int) (hs : 0 < st) (w : World) :
    Calls Tryd.prog 64 #[.int .i64 n, .int .i64 lo, .int .i64 hi, .int .i64 st] w fun e w' => e = .returned (.bool (withinB n lo hi st)) ∧ w' = w := by
  go_enter Tryd.func64, Tryd.ntmps64
  go_wp2
  all_goals
    go_ret
    refine ⟨ret_bool ?_, rfl⟩
    go_light
    simp [withinB]
    try omega
/-- An instruction, as a value. -/
def insnV (op rd rs1 rs2 imm csr : Int) : Value := .agg #[.int .i64 op, .int .i64 rd, .int .i64 rs1, .int .i64 rs2, .int .i64 imm, .int .i64 csr]
def numB (op imm : Int) : Bool :=
  if op ≤ 2 then withinB imm (-2147483648) 2147479552 4096 else if op = 3 then withinB imm (-1048576) 1048574 2 else if clsI op = 2 then withinB imm (-4096) 4094 2
  else if 28 ≤ op ∧ op ≤ 30 then withinB imm 0 63 1 else if (32 ≤ op ∧ op ≤ 34) ∨ clsI op = 9 then withinB imm 0 31 1 else withinB imm (-2048) 2047 1
theorem num_1 {op imm : Int} (h : op ≤ 2) : withinB imm (-2147483648) 2147479552 4096 = numB op imm := by
  unfold numB; rw [if_pos h]
theorem num_2 {op imm : Int} (h : op = 3) : withinB imm (-1048576) 1048574 2 = numB op imm := by
  unfold numB; rw [if_neg (by omega), if_pos h]
theorem num_3 {op imm : Int} (h0 : ¬ op ≤ 2) (h1 : ¬ op = 3) (h : clsI op = 2) : withinB imm (-4096) 4094 2 = numB op imm := by
  unfold numB; rw [if_neg h0, if_neg h1, if_pos h]
theorem num_4 {op imm : Int} (h2 : ¬ clsI op = 2) (h : 28 ≤ op ∧ op ≤ 30) : withinB imm 0 63 1 = numB op imm := by
  unfold numB; rw [if_neg (by omega), if_neg (by omega), if_neg h2, if_pos h]
theorem num_5 {op imm : Int} (h0 : ¬ op ≤ 2) (h1 : ¬ op = 3) (h2 : ¬ clsI op = 2) (h3 : ¬ (28 ≤ op ∧ op ≤ 30)) (h : (32 ≤ op ∧ op ≤ 34) ∨ clsI op = 9) : withinB imm 0 31 1 = numB op imm := by
  unfold numB; rw [if_neg h0, if_neg h1, if_neg h2, if_neg h3, if_pos h]
theorem num_6 {op imm : Int} (h0 : ¬ op ≤ 2) (h1 : ¬ op = 3) (h2 : ¬ clsI op = 2) (h3 : ¬ (28 ≤ op ∧ op ≤ 30)) (h : ¬ ((32 ≤ op ∧ op ≤ 34) ∨ clsI op = 9)) : withinB imm (-2048) 2047 1 = numB op imm := by
  unfold numB; rw [if_neg h0, if_neg h1, if_neg h2, if_neg h3, if_neg h]
set_option maxHeartbeats 1000000 in
theorem rnumber_any (op rd rs1 rs2 imm csr : Int) (w : World) :
    Calls Tryd.prog 45 #[.agg #[.int .i64 op, .int .i64 rd, .int .i64 rs1, .int .i64 rs2, .int .i64 imm, .int .i64 csr]] w fun e w' => e = .returned (.bool (numB op imm)) ∧ Grown w w' := by
  go_enter Tryd.func45, Tryd.ntmps45
  go_wp2_with (first | (go_at_call 24; refine (rclass_any _ _).mono ?_; rintro e w' ⟨rfl, rfl⟩) | (go_at_call 64; refine (rwithin_any _ _ _ _ (by decide) _).mono ?_; rintro e w' ⟨rfl, rfl⟩))
  all_goals
    go_ret
    refine ⟨ret_bool ?_, (Grown.refl _).alloc _ _⟩
    go_light
    try simp only [beq_iff_eq, beq_eq_false_iff_ne, ne_eq] at *
    first | exact num_1 (by omega) | exact num_2 (by omega) | exact num_3 (by omega) (by omega) (by omega) | exact num_4 (by omega) (by omega) | exact num_5 (by omega) (by omega) (by omega) (by omega) (by omega) | exact num_6 (by omega) (by omega) (by omega) (by omega) (by omega)
end Go.Proofs.YtdogjmimjjmmaaaDoor
