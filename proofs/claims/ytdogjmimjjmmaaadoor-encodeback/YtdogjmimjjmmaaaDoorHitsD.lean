/-
  Which words an operation has, as the document's words tell it: the operation's codes, and noughts where it has no field.
-/
import Derived.Test.YtdogjmimjjmmaaaDoorRefDec
namespace Go.Proofs.YtdogjmimjjmmaaaDoor
open Go.RowKit
theorem sgn_bd {x h : Int} (h0 : 0 ≤ x) (h1 : x < 2 * h) : -h ≤ sgn x h ∧ sgn x h < h := by
  unfold sgn; split <;> omega
theorem sgn_mod {x h : Int} (h0 : 0 ≤ x) (h1 : x < 2 * h) (k : Int) (hk : 4294967296 = 2 * h * k) : sgn x h % 4294967296 % (2 * h) = x := by
  have e : sgn x h % 4294967296 % (2 * h) = sgn x h % (2 * h) := by rw [hk]; exact Int.emod_emod_of_dvd _ (Int.dvd_mul_right _ _)
  rw [e]; unfold sgn; split
  · exact Int.emod_eq_of_lt h0 h1
  · rw [show x - 2 * h = x + 2 * h * (-1) by omega, Int.add_mul_emod_self_left]; exact Int.emod_eq_of_lt h0 h1
theorem sgn_dvd {x h c : Int} (h0 : x % c = 0) (h1 : 2 * h % c = 0) : sgn x h % c = 0 := by
  have d0 := Int.dvd_of_emod_eq_zero h0
  have d1 := Int.dvd_of_emod_eq_zero h1
  apply Int.emod_eq_zero_of_dvd
  unfold sgn; split
  · exact d0
  · exact Int.dvd_sub d0 d1
theorem tmod_zero {x c : Int} (h : x % c = 0) : x.tmod c = 0 := Int.tmod_eq_zero_of_dvd (Int.dvd_of_emod_eq_zero h)
theorem reg_ok {x : Int} (h0 : 0 ≤ x) (h1 : x < 32) : regB x true = true := by
  unfold regB; by_cases h : x = 0
  · simp [h]
  · have : 0 < x := by omega
    simp [this, h1]
theorem imm_num {op imm : Int} (h : hasNum op = true) : immB op imm = numB op imm := by unfold immB; rw [h, if_pos rfl]
theorem imm_none {op : Int} (h : hasNum op = false) : immB op 0 = true := by unfold immB; rw [h]; rfl
theorem is_of {op rd rs1 rs2 imm csr : Int} (h0 : clsI op ≠ 0) (h1 : regB rd (hasRd op) = true) (h2 : regB rs1 (hasRs1 op) = true) (h3 : regB rs2 (hasRs2 op) = true) (h4 : csrB csr (hasCsr op) = true) (h5 : immB op imm = true) :
    isB op rd rs1 rs2 imm csr = true := by
  unfold isB
  rw [h1, h2, h3, h4, h5]
  simpa using h0
theorem reg_zero (b : Bool) : regB 0 b = true := by simp [regB]
theorem csr_zero (b : Bool) : csrB 0 b = true := by simp [csrB]
theorem U_parts {n : Int} (a : Int) (a0 : 0 ≤ a) (a1 : a < 1048576) (n0 : 0 ≤ n) (n1 : n < 4294967296) (h : n % 4294967296 = a * 4096) : n / 4096 = a := by omega
theorem div_of {x P d r : Int} (hP : 0 < P) (h : x = d * P + r) (h0 : 0 ≤ r) (h1 : r < P) : x / P = d := by
  rw [h, Int.add_comm, Int.add_mul_ediv_right _ _ (by omega), Int.ediv_eq_zero_of_lt h0 h1, Int.zero_add]
theorem mod_of {x P d r : Int} (h : x = d * P + r) (h0 : 0 ≤ r) (h1 : r < P) : x % P = r := by
  rw [h, Int.add_comm, Int.add_mul_emod_self_right, Int.emod_eq_of_lt h0 h1]
theorem J_parts {n : Int} (a b c d : Int) (a0 : 0 ≤ a) (a1 : a < 256) (b0 : 0 ≤ b) (b1 : b < 2) (c0 : 0 ≤ c) (c1 : c < 1024) (d0 : 0 ≤ d) (d1 : d < 2) (h : n % 2097152 = d * 1048576 + a * 4096 + b * 2048 + c * 2) :
    n / 1048576 % 2 = d ∧ n / 4096 % 256 = a ∧ n / 2048 % 2 = b ∧ n / 2 % 1024 = c := by
  have e := Int.mul_ediv_add_emod n 2097152
  rw [h] at e
  generalize n / 2097152 = k at e
  rw [div_of (x := n) (P := 1048576) (d := k * 2 + d) (r := a * 4096 + b * 2048 + c * 2) (by omega) (by omega) (by omega) (by omega),
    div_of (x := n) (P := 4096) (d := (k * 2 + d) * 256 + a) (r := b * 2048 + c * 2) (by omega) (by omega) (by omega) (by omega),
    div_of (x := n) (P := 2048) (d := (k * 512 + d * 256 + a) * 2 + b) (r := c * 2) (by omega) (by omega) (by omega) (by omega),
    div_of (x := n) (P := 2) (d := (k * 1024 + d * 512 + a * 2 + b) * 1024 + c) (r := 0) (by omega) (by omega) (by omega) (by omega)]
  exact ⟨mod_of rfl d0 d1, mod_of rfl a0 a1, mod_of rfl b0 b1, mod_of rfl c0 c1⟩
theorem B_parts {n : Int} (a b c d : Int) (a0 : 0 ≤ a) (a1 : a < 2) (b0 : 0 ≤ b) (b1 : b < 16) (c0 : 0 ≤ c) (c1 : c < 64) (d0 : 0 ≤ d) (d1 : d < 2) (h : n % 8192 = d * 4096 + a * 2048 + c * 32 + b * 2) :
    n / 4096 % 2 = d ∧ n / 2048 % 2 = a ∧ n / 32 % 64 = c ∧ n / 2 % 16 = b := by
  have e := Int.mul_ediv_add_emod n 8192
  rw [h] at e
  generalize n / 8192 = k at e
  rw [div_of (x := n) (P := 4096) (d := k * 2 + d) (r := a * 2048 + c * 32 + b * 2) (by omega) (by omega) (by omega) (by omega),
    div_of (x := n) (P := 2048) (d := (k * 2 + d) * 2 + a) (r := c * 32 + b * 2) (by omega) (by omega) (by omega) (by omega),
    div_of (x := n) (P := 32) (d := (k * 4 + d * 2 + a) * 64 + c) (r := b * 2) (by omega) (by omega) (by omega) (by omega),
    div_of (x := n) (P := 2) (d := (k * 256 + d * 128 + a * 64 + c) * 16 + b) (r := 0) (by omega) (by omega) (by omega) (by omega)]
  exact ⟨mod_of rfl d0 d1, mod_of rfl a0 a1, mod_of rfl c0 c1, mod_of rfl b0 b1⟩
theorem S_parts {n : Int} (a b : Int) (a0 : 0 ≤ a) (a1 : a < 32) (b0 : 0 ≤ b) (b1 : b < 128) (h : n % 4096 = b * 32 + a) : n / 32 % 128 = b ∧ n % 32 = a := by
  have e := Int.mul_ediv_add_emod n 4096
  rw [h] at e
  generalize n / 4096 = k at e
  rw [div_of (x := n) (P := 32) (d := k * 128 + b) (r := a) (by omega) (by omega) (by omega) (by omega)]
  exact ⟨mod_of rfl b0 b1, mod_of (d := k * 128 + b) (by omega) a0 a1⟩
theorem csr_ok {x : Int} (h0 : 0 ≤ x) (h1 : x ≤ 4095) : csrB x true = true := by
  unfold csrB; simp [h0, h1]
theorem hit_fix (op v : Int) (h0 : 50 ≤ op ∧ op ≤ 53 ∨ 60 ≤ op ∧ op ≤ 62) : hitB op v = (fixI op == v) := by
  have hfx : (fixI op == 0) = false := by
    have := op_cases (p := fun op => 50 ≤ op ∧ op ≤ 53 ∨ 60 ≤ op ∧ op ≤ 62 → (fixI op == 0) = false) (by decide +kernel) (fun op h a => by omega) op
    exact this h0
  have hc : clsI op = 7 ∨ clsI op = 8 ∨ clsI op = 10 := by
    have := op_cases (p := fun op => 50 ≤ op ∧ op ≤ 53 ∨ 60 ≤ op ∧ op ≤ 62 → clsI op = 7 ∨ clsI op = 8 ∨ clsI op = 10) (by decide +kernel) (fun op h a => by omega) op
    exact this h0
  have p1 : hasRd op = false := decide_eq_false (by omega)
  have p2 : hasRs1 op = false := decide_eq_false (by omega)
  have p3 : hasRs2 op = false := decide_eq_false (by omega)
  have p4 : hasCsr op = false := decide_eq_false (by omega)
  have p5 : hasNum op = false := decide_eq_false (by omega)
  have e1 : gRdI op v = 0 := by unfold gRdI; rw [p1]; rfl
  have e2 : gRs1I op v = 0 := by unfold gRs1I; rw [p2]; rfl
  have e3 : gRs2I op v = 0 := by unfold gRs2I; rw [p3]; rfl
  have e4 : gCsrI op v = 0 := by unfold gCsrI; rw [p4]; rfl
  have e5 : gImmI op v = 0 := by
    unfold gImmI
    repeat rw [if_neg (by omega)]
  have hi : gIs op v = true := by
    unfold gIs
    rw [e1, e2, e3, e4, e5]
    exact is_of (by omega) (reg_zero _) (reg_zero _) (reg_zero _) (csr_zero _) (imm_none p5)
  have he : gEnc op v = fixI op := by
    unfold gEnc encI
    repeat rw [if_neg (by omega)]
    rw [if_pos (by omega)]
  unfold hitB skipB
  rw [hi, he, hfx]
  simp
end Go.Proofs.YtdogjmimjjmmaaaDoor
namespace Go.Proofs.YtdogjmimjjmmaaaDoor
open Go.RowKit
set_option maxHeartbeats 1000000 in
theorem hit_U (op v : Int) (h0 : 1 ≤ op) (h1 : op ≤ 2) (hv0 : 0 ≤ v) (hv1 : v < 4294967296) : hitB op v = (v % 128 == opcI op) := by
  have hc : clsI op = 1 := (cls_1 (by omega) (by omega)).symm
  have hfx : fixI op = 0 := fix_none (by omega)
  obtain ⟨o0, o1, o2, o3, o4, o5⟩ := codes_bd op
  have p1 : hasRd op = true := decide_eq_true (by omega)
  have p2 : hasRs1 op = false := decide_eq_false (by omega)
  have p3 : hasRs2 op = false := decide_eq_false (by omega)
  have p4 : hasCsr op = false := decide_eq_false (by omega)
  have p5 : hasNum op = true := decide_eq_true (by omega)
  have e1 : gRdI op v = v / 128 % 32 := by unfold gRdI; rw [p1]; rfl
  have e2 : gRs1I op v = 0 := by unfold gRs1I; rw [p2]; rfl
  have e3 : gRs2I op v = 0 := by unfold gRs2I; rw [p3]; rfl
  have e4 : gCsrI op v = 0 := by unfold gCsrI; rw [p4]; rfl
  have e5 : gImmI op v = sgn (v / 4096 * 4096) 2147483648 := by
    unfold gImmI
    rw [hc]
    repeat rw [if_neg (by omega)]
    rw [if_pos (by omega)]
    rfl
  obtain ⟨s0, s1⟩ := sgn_bd (x := v / 4096 * 4096) (h := 2147483648) (by omega) (by omega)
  have sm : (sgn (v / 4096 * 4096) 2147483648) % 4294967296 % 4294967296 = v / 4096 * 4096 := sgn_mod (x := v / 4096 * 4096) (h := 2147483648) (by omega) (by omega) 1 rfl
  have sd : (sgn (v / 4096 * 4096) 2147483648) % 4096 = 0 := sgn_dvd (by omega) (by omega)
  have hi : gIs op v = true := by
    unfold gIs
    rw [e1, e2, e3, e4, e5]
    refine is_of (by rw [hc]; decide) (by rw [p1]; exact reg_ok (by omega) (by omega)) (reg_zero _) (reg_zero _) (csr_zero _) ?_
    rw [imm_num p5, numB, hc]
    repeat rw [if_neg (by omega)]
    rw [if_pos (by omega)]
    simp only [withinB, tmod_zero sd, Bool.and_eq_true, decide_eq_true_eq, beq_self_eq_true, and_true]
    omega
  have he : gEnc op v = opcI op + v / 128 % 32 * 128 + v / 4096 * 4096 := by
    unfold gEnc encI
    rw [e1, e2, e3, e4, e5, hc]
    repeat rw [if_neg (by omega)]
    rw [if_pos (by omega)]
    have tt := U_parts (n := (sgn (v / 4096 * 4096) 2147483648) % 4294967296) (v / 4096) (by omega) (by omega) (by omega) (by omega) sm
    rw [tt]
  unfold hitB skipB
  rw [hi, he, hfx]
  have h3 : decide (3 < op) = false := decide_eq_false (by omega)
  rw [h3]
  clear hi he e1 e2 e3 e4 e5 p1 p2 p3 p4 p5 sm s0 s1 sd
  have b0 : 0 ≤ v % 128 ∧ v % 128 < 128 := by omega
  have k0 : v = v % 128 + 128 * (v / 128) := by omega
  have b1 : 0 ≤ v / 128 % 32 ∧ v / 128 % 32 < 32 := by omega
  have k1 : v / 128 = v / 128 % 32 + 32 * (v / 4096) := by omega
  have b2 : 0 ≤ v / 4096 ∧ v / 4096 < 1048576 := by omega
  generalize v / 128 % 32 = y1 at *
  generalize v % 128 = y0 at *
  generalize v / 4096 = y2 at *
  generalize v / 128 = z1 at *
  apply Bool.eq_iff_iff.2
  simp
  omega
set_option maxHeartbeats 1000000 in
theorem hit_J (op v : Int) (h0 : 3 ≤ op) (h1 : op ≤ 3) (hv0 : 0 ≤ v) (hv1 : v < 4294967296) : hitB op v = (v % 128 == opcI op) := by
  have hc : clsI op = 1 := (cls_1 (by omega) (by omega)).symm
  have hfx : fixI op = 0 := fix_none (by omega)
  obtain ⟨o0, o1, o2, o3, o4, o5⟩ := codes_bd op
  have p1 : hasRd op = true := decide_eq_true (by omega)
  have p2 : hasRs1 op = false := decide_eq_false (by omega)
  have p3 : hasRs2 op = false := decide_eq_false (by omega)
  have p4 : hasCsr op = false := decide_eq_false (by omega)
  have p5 : hasNum op = true := decide_eq_true (by omega)
  have e1 : gRdI op v = v / 128 % 32 := by unfold gRdI; rw [p1]; rfl
  have e2 : gRs1I op v = 0 := by unfold gRs1I; rw [p2]; rfl
  have e3 : gRs2I op v = 0 := by unfold gRs2I; rw [p3]; rfl
  have e4 : gCsrI op v = 0 := by unfold gCsrI; rw [p4]; rfl
  have e5 : gImmI op v = sgn (v / 2147483648 * 1048576 + v / 4096 % 256 * 4096 + v / 1048576 % 2 * 2048 + v / 2097152 % 1024 * 2) 1048576 := by
    unfold gImmI
    rw [hc]
    repeat rw [if_neg (by omega)]
    rw [if_pos (by omega)]
    rfl
  obtain ⟨s0, s1⟩ := sgn_bd (x := v / 2147483648 * 1048576 + v / 4096 % 256 * 4096 + v / 1048576 % 2 * 2048 + v / 2097152 % 1024 * 2) (h := 1048576) (by omega) (by omega)
  have sm : (sgn (v / 2147483648 * 1048576 + v / 4096 % 256 * 4096 + v / 1048576 % 2 * 2048 + v / 2097152 % 1024 * 2) 1048576) % 4294967296 % 2097152 = v / 2147483648 * 1048576 + v / 4096 % 256 * 4096 + v / 1048576 % 2 * 2048 + v / 2097152 % 1024 * 2 := sgn_mod (x := v / 2147483648 * 1048576 + v / 4096 % 256 * 4096 + v / 1048576 % 2 * 2048 + v / 2097152 % 1024 * 2) (h := 1048576) (by omega) (by omega) 2048 rfl
  have sd : (sgn (v / 2147483648 * 1048576 + v / 4096 % 256 * 4096 + v / 1048576 % 2 * 2048 + v / 2097152 % 1024 * 2) 1048576) % 2 = 0 := sgn_dvd (by omega) (by omega)
  have hi : gIs op v = true := by
    unfold gIs
    rw [e1, e2, e3, e4, e5]
    refine is_of (by rw [hc]; decide) (by rw [p1]; exact reg_ok (by omega) (by omega)) (reg_zero _) (reg_zero _) (csr_zero _) ?_
    rw [imm_num p5, numB, hc]
    repeat rw [if_neg (by omega)]
    rw [if_pos (by omega)]
    simp only [withinB, tmod_zero sd, Bool.and_eq_true, decide_eq_true_eq, beq_self_eq_true, and_true]
    omega
  have he : gEnc op v = opcI op + v / 128 % 32 * 128 + v / 2147483648 * 2147483648 + v / 4096 % 256 * 4096 + v / 1048576 % 2 * 1048576 + v / 2097152 % 1024 * 2097152 := by
    unfold gEnc encI
    rw [e1, e2, e3, e4, e5, hc]
    repeat rw [if_neg (by omega)]
    rw [if_pos (by omega)]
    have tt := J_parts (n := (sgn (v / 2147483648 * 1048576 + v / 4096 % 256 * 4096 + v / 1048576 % 2 * 2048 + v / 2097152 % 1024 * 2) 1048576) % 4294967296) (v / 4096 % 256) (v / 1048576 % 2) (v / 2097152 % 1024) (v / 2147483648) (by omega) (by omega) (by omega) (by omega) (by omega) (by omega) (by omega) (by omega) sm
    obtain ⟨t0, t1, t2, t3⟩ := tt
    rw [t0, t1, t2, t3]
  unfold hitB skipB
  rw [hi, he, hfx]
  have h3 : decide (3 < op) = false := decide_eq_false (by omega)
  rw [h3]
  clear hi he e1 e2 e3 e4 e5 p1 p2 p3 p4 p5 sm s0 s1 sd
  have b0 : 0 ≤ v % 128 ∧ v % 128 < 128 := by omega
  have k0 : v = v % 128 + 128 * (v / 128) := by omega
  have b1 : 0 ≤ v / 128 % 32 ∧ v / 128 % 32 < 32 := by omega
  have k1 : v / 128 = v / 128 % 32 + 32 * (v / 4096) := by omega
  have b2 : 0 ≤ v / 4096 % 256 ∧ v / 4096 % 256 < 256 := by omega
  have k2 : v / 4096 = v / 4096 % 256 + 256 * (v / 1048576) := by omega
  have b3 : 0 ≤ v / 1048576 % 2 ∧ v / 1048576 % 2 < 2 := by omega
  have k3 : v / 1048576 = v / 1048576 % 2 + 2 * (v / 2097152) := by omega
  have b4 : 0 ≤ v / 2097152 % 1024 ∧ v / 2097152 % 1024 < 1024 := by omega
  have k4 : v / 2097152 = v / 2097152 % 1024 + 1024 * (v / 2147483648) := by omega
  have b5 : 0 ≤ v / 2147483648 ∧ v / 2147483648 < 2 := by omega
  generalize v / 2097152 % 1024 = y4 at *
  generalize v / 1048576 % 2 = y3 at *
  generalize v / 4096 % 256 = y2 at *
  generalize v / 128 % 32 = y1 at *
  generalize v % 128 = y0 at *
  generalize v / 2147483648 = y5 at *
  generalize v / 2097152 = z4 at *
  generalize v / 1048576 = z3 at *
  generalize v / 4096 = z2 at *
  generalize v / 128 = z1 at *
  apply Bool.eq_iff_iff.2
  simp
  omega
set_option maxHeartbeats 1000000 in
theorem hit_Jr (op v : Int) (h0 : 4 ≤ op) (h1 : op ≤ 4) (hv0 : 0 ≤ v) (hv1 : v < 4294967296) : hitB op v = ((v % 128 == opcI op) && (v / 4096 % 8 == f3I op)) := by
  have hc : clsI op = 1 := (cls_1 (by omega) (by omega)).symm
  have hfx : fixI op = 0 := fix_none (by omega)
  obtain ⟨o0, o1, o2, o3, o4, o5⟩ := codes_bd op
  have p1 : hasRd op = true := decide_eq_true (by omega)
  have p2 : hasRs1 op = true := decide_eq_true (by omega)
  have p3 : hasRs2 op = false := decide_eq_false (by omega)
  have p4 : hasCsr op = false := decide_eq_false (by omega)
  have p5 : hasNum op = true := decide_eq_true (by omega)
  have e1 : gRdI op v = v / 128 % 32 := by unfold gRdI; rw [p1]; rfl
  have e2 : gRs1I op v = v / 32768 % 32 := by unfold gRs1I; rw [p2]; rfl
  have e3 : gRs2I op v = 0 := by unfold gRs2I; rw [p3]; rfl
  have e4 : gCsrI op v = 0 := by unfold gCsrI; rw [p4]; rfl
  have e5 : gImmI op v = sgn (v / 1048576) 2048 := by
    unfold gImmI
    rw [hc]
    repeat rw [if_neg (by omega)]
    rw [if_pos (by omega)]
    rfl
  obtain ⟨s0, s1⟩ := sgn_bd (x := v / 1048576) (h := 2048) (by omega) (by omega)
  have sm : (sgn (v / 1048576) 2048) % 4294967296 % 4096 = v / 1048576 := sgn_mod (x := v / 1048576) (h := 2048) (by omega) (by omega) 1048576 rfl
  have hi : gIs op v = true := by
    unfold gIs
    rw [e1, e2, e3, e4, e5]
    refine is_of (by rw [hc]; decide) (by rw [p1]; exact reg_ok (by omega) (by omega)) (by rw [p2]; exact reg_ok (by omega) (by omega)) (reg_zero _) (csr_zero _) ?_
    rw [imm_num p5, numB, hc]
    repeat rw [if_neg (by omega)]
    simp only [withinB, Int.tmod_one, Bool.and_eq_true, decide_eq_true_eq, beq_self_eq_true, and_true]
    omega
  have he : gEnc op v = opcI op + f3I op * 4096 + v / 32768 % 32 * 32768 + v / 128 % 32 * 128 + v / 1048576 * 1048576 := by
    unfold gEnc encI
    rw [e1, e2, e3, e4, e5, hc]
    repeat rw [if_neg (by omega)]
    generalize (sgn (v / 1048576) 2048) % 4294967296 = n at sm ⊢
    omega
  unfold hitB skipB
  rw [hi, he, hfx]
  have h3 : decide (3 < op) = true := decide_eq_true (by omega)
  rw [h3]
  clear hi he e1 e2 e3 e4 e5 p1 p2 p3 p4 p5 sm s0 s1
  have b0 : 0 ≤ v % 128 ∧ v % 128 < 128 := by omega
  have k0 : v = v % 128 + 128 * (v / 128) := by omega
  have b1 : 0 ≤ v / 128 % 32 ∧ v / 128 % 32 < 32 := by omega
  have k1 : v / 128 = v / 128 % 32 + 32 * (v / 4096) := by omega
  have b2 : 0 ≤ v / 4096 % 8 ∧ v / 4096 % 8 < 8 := by omega
  have k2 : v / 4096 = v / 4096 % 8 + 8 * (v / 32768) := by omega
  have b3 : 0 ≤ v / 32768 % 32 ∧ v / 32768 % 32 < 32 := by omega
  have k3 : v / 32768 = v / 32768 % 32 + 32 * (v / 1048576) := by omega
  have b4 : 0 ≤ v / 1048576 ∧ v / 1048576 < 4096 := by omega
  generalize v / 32768 % 32 = y3 at *
  generalize v / 4096 % 8 = y2 at *
  generalize v / 128 % 32 = y1 at *
  generalize v % 128 = y0 at *
  generalize v / 1048576 = y4 at *
  generalize v / 32768 = z3 at *
  generalize v / 4096 = z2 at *
  generalize v / 128 = z1 at *
  apply Bool.eq_iff_iff.2
  simp
  omega
set_option maxHeartbeats 1000000 in
theorem hit_B (op v : Int) (h0 : 5 ≤ op) (h1 : op ≤ 10) (hv0 : 0 ≤ v) (hv1 : v < 4294967296) : hitB op v = ((v % 128 == opcI op) && (v / 4096 % 8 == f3I op)) := by
  have hc : clsI op = 2 := (cls_2 (by omega) (by omega)).symm
  have hfx : fixI op = 0 := fix_none (by omega)
  obtain ⟨o0, o1, o2, o3, o4, o5⟩ := codes_bd op
  have p1 : hasRd op = false := decide_eq_false (by omega)
  have p2 : hasRs1 op = true := decide_eq_true (by omega)
  have p3 : hasRs2 op = true := decide_eq_true (by omega)
  have p4 : hasCsr op = false := decide_eq_false (by omega)
  have p5 : hasNum op = true := decide_eq_true (by omega)
  have e1 : gRdI op v = 0 := by unfold gRdI; rw [p1]; rfl
  have e2 : gRs1I op v = v / 32768 % 32 := by unfold gRs1I; rw [p2]; rfl
  have e3 : gRs2I op v = v / 1048576 % 32 := by unfold gRs2I; rw [p3]; rfl
  have e4 : gCsrI op v = 0 := by unfold gCsrI; rw [p4]; rfl
  have e5 : gImmI op v = sgn (v / 2147483648 * 4096 + v / 128 % 2 * 2048 + v / 33554432 % 64 * 32 + v / 256 % 16 * 2) 4096 := by
    unfold gImmI
    rw [hc]
    repeat rw [if_neg (by omega)]
    rw [if_pos (by omega)]
    rfl
  obtain ⟨s0, s1⟩ := sgn_bd (x := v / 2147483648 * 4096 + v / 128 % 2 * 2048 + v / 33554432 % 64 * 32 + v / 256 % 16 * 2) (h := 4096) (by omega) (by omega)
  have sm : (sgn (v / 2147483648 * 4096 + v / 128 % 2 * 2048 + v / 33554432 % 64 * 32 + v / 256 % 16 * 2) 4096) % 4294967296 % 8192 = v / 2147483648 * 4096 + v / 128 % 2 * 2048 + v / 33554432 % 64 * 32 + v / 256 % 16 * 2 := sgn_mod (x := v / 2147483648 * 4096 + v / 128 % 2 * 2048 + v / 33554432 % 64 * 32 + v / 256 % 16 * 2) (h := 4096) (by omega) (by omega) 524288 rfl
  have sd : (sgn (v / 2147483648 * 4096 + v / 128 % 2 * 2048 + v / 33554432 % 64 * 32 + v / 256 % 16 * 2) 4096) % 2 = 0 := sgn_dvd (by omega) (by omega)
  have hi : gIs op v = true := by
    unfold gIs
    rw [e1, e2, e3, e4, e5]
    refine is_of (by rw [hc]; decide) (reg_zero _) (by rw [p2]; exact reg_ok (by omega) (by omega)) (by rw [p3]; exact reg_ok (by omega) (by omega)) (csr_zero _) ?_
    rw [imm_num p5, numB, hc]
    repeat rw [if_neg (by omega)]
    rw [if_pos (by omega)]
    simp only [withinB, tmod_zero sd, Bool.and_eq_true, decide_eq_true_eq, beq_self_eq_true, and_true]
    omega
  have he : gEnc op v = opcI op + f3I op * 4096 + v / 32768 % 32 * 32768 + v / 1048576 % 32 * 1048576 + v / 2147483648 * 2147483648 + v / 128 % 2 * 128 + v / 33554432 % 64 * 33554432 + v / 256 % 16 * 256 := by
    unfold gEnc encI
    rw [e1, e2, e3, e4, e5, hc]
    repeat rw [if_neg (by omega)]
    rw [if_pos (by omega)]
    have tt := B_parts (n := (sgn (v / 2147483648 * 4096 + v / 128 % 2 * 2048 + v / 33554432 % 64 * 32 + v / 256 % 16 * 2) 4096) % 4294967296) (v / 128 % 2) (v / 256 % 16) (v / 33554432 % 64) (v / 2147483648) (by omega) (by omega) (by omega) (by omega) (by omega) (by omega) (by omega) (by omega) sm
    obtain ⟨t0, t1, t2, t3⟩ := tt
    rw [t0, t1, t2, t3]
  unfold hitB skipB
  rw [hi, he, hfx]
  have h3 : decide (3 < op) = true := decide_eq_true (by omega)
  rw [h3]
  clear hi he e1 e2 e3 e4 e5 p1 p2 p3 p4 p5 sm s0 s1 sd
  have b0 : 0 ≤ v % 128 ∧ v % 128 < 128 := by omega
  have k0 : v = v % 128 + 128 * (v / 128) := by omega
  have b1 : 0 ≤ v / 128 % 2 ∧ v / 128 % 2 < 2 := by omega
  have k1 : v / 128 = v / 128 % 2 + 2 * (v / 256) := by omega
  have b2 : 0 ≤ v / 256 % 16 ∧ v / 256 % 16 < 16 := by omega
  have k2 : v / 256 = v / 256 % 16 + 16 * (v / 4096) := by omega
  have b3 : 0 ≤ v / 4096 % 8 ∧ v / 4096 % 8 < 8 := by omega
  have k3 : v / 4096 = v / 4096 % 8 + 8 * (v / 32768) := by omega
  have b4 : 0 ≤ v / 32768 % 32 ∧ v / 32768 % 32 < 32 := by omega
  have k4 : v / 32768 = v / 32768 % 32 + 32 * (v / 1048576) := by omega
  have b5 : 0 ≤ v / 1048576 % 32 ∧ v / 1048576 % 32 < 32 := by omega
  have k5 : v / 1048576 = v / 1048576 % 32 + 32 * (v / 33554432) := by omega
  have b6 : 0 ≤ v / 33554432 % 64 ∧ v / 33554432 % 64 < 64 := by omega
  have k6 : v / 33554432 = v / 33554432 % 64 + 64 * (v / 2147483648) := by omega
  have b7 : 0 ≤ v / 2147483648 ∧ v / 2147483648 < 2 := by omega
  generalize v / 33554432 % 64 = y6 at *
  generalize v / 1048576 % 32 = y5 at *
  generalize v / 32768 % 32 = y4 at *
  generalize v / 4096 % 8 = y3 at *
  generalize v / 256 % 16 = y2 at *
  generalize v / 128 % 2 = y1 at *
  generalize v % 128 = y0 at *
  generalize v / 2147483648 = y7 at *
  generalize v / 33554432 = z6 at *
  generalize v / 1048576 = z5 at *
  generalize v / 32768 = z4 at *
  generalize v / 4096 = z3 at *
  generalize v / 256 = z2 at *
  generalize v / 128 = z1 at *
  apply Bool.eq_iff_iff.2
  simp
  omega
end Go.Proofs.YtdogjmimjjmmaaaDoor
namespace Go.Proofs.YtdogjmimjjmmaaaDoor
open Go.RowKit
set_option maxHeartbeats 1000000 in
theorem hit_L (op v : Int) (h0 : 11 ≤ op) (h1 : op ≤ 17) (hv0 : 0 ≤ v) (hv1 : v < 4294967296) : hitB op v = ((v % 128 == opcI op) && (v / 4096 % 8 == f3I op)) := by
  have hc : clsI op = 3 := (cls_3 (by omega) (by omega)).symm
  have hfx : fixI op = 0 := fix_none (by omega)
  obtain ⟨o0, o1, o2, o3, o4, o5⟩ := codes_bd op
  have p1 : hasRd op = true := decide_eq_true (by omega)
  have p2 : hasRs1 op = true := decide_eq_true (by omega)
  have p3 : hasRs2 op = false := decide_eq_false (by omega)
  have p4 : hasCsr op = false := decide_eq_false (by omega)
  have p5 : hasNum op = true := decide_eq_true (by omega)
  have e1 : gRdI op v = v / 128 % 32 := by unfold gRdI; rw [p1]; rfl
  have e2 : gRs1I op v = v / 32768 % 32 := by unfold gRs1I; rw [p2]; rfl
  have e3 : gRs2I op v = 0 := by unfold gRs2I; rw [p3]; rfl
  have e4 : gCsrI op v = 0 := by unfold gCsrI; rw [p4]; rfl
  have e5 : gImmI op v = sgn (v / 1048576) 2048 := by
    unfold gImmI
    rw [hc]
    repeat rw [if_neg (by omega)]
    rw [if_pos (by omega)]
    rfl
  obtain ⟨s0, s1⟩ := sgn_bd (x := v / 1048576) (h := 2048) (by omega) (by omega)
  have sm : (sgn (v / 1048576) 2048) % 4294967296 % 4096 = v / 1048576 := sgn_mod (x := v / 1048576) (h := 2048) (by omega) (by omega) 1048576 rfl
  have hi : gIs op v = true := by
    unfold gIs
    rw [e1, e2, e3, e4, e5]
    refine is_of (by rw [hc]; decide) (by rw [p1]; exact reg_ok (by omega) (by omega)) (by rw [p2]; exact reg_ok (by omega) (by omega)) (reg_zero _) (csr_zero _) ?_
    rw [imm_num p5, numB, hc]
    repeat rw [if_neg (by omega)]
    simp only [withinB, Int.tmod_one, Bool.and_eq_true, decide_eq_true_eq, beq_self_eq_true, and_true]
    omega
  have he : gEnc op v = opcI op + f3I op * 4096 + v / 32768 % 32 * 32768 + v / 128 % 32 * 128 + v / 1048576 * 1048576 := by
    unfold gEnc encI
    rw [e1, e2, e3, e4, e5, hc]
    repeat rw [if_neg (by omega)]
    generalize (sgn (v / 1048576) 2048) % 4294967296 = n at sm ⊢
    omega
  unfold hitB skipB
  rw [hi, he, hfx]
  have h3 : decide (3 < op) = true := decide_eq_true (by omega)
  rw [h3]
  clear hi he e1 e2 e3 e4 e5 p1 p2 p3 p4 p5 sm s0 s1
  have b0 : 0 ≤ v % 128 ∧ v % 128 < 128 := by omega
  have k0 : v = v % 128 + 128 * (v / 128) := by omega
  have b1 : 0 ≤ v / 128 % 32 ∧ v / 128 % 32 < 32 := by omega
  have k1 : v / 128 = v / 128 % 32 + 32 * (v / 4096) := by omega
  have b2 : 0 ≤ v / 4096 % 8 ∧ v / 4096 % 8 < 8 := by omega
  have k2 : v / 4096 = v / 4096 % 8 + 8 * (v / 32768) := by omega
  have b3 : 0 ≤ v / 32768 % 32 ∧ v / 32768 % 32 < 32 := by omega
  have k3 : v / 32768 = v / 32768 % 32 + 32 * (v / 1048576) := by omega
  have b4 : 0 ≤ v / 1048576 ∧ v / 1048576 < 4096 := by omega
  generalize v / 32768 % 32 = y3 at *
  generalize v / 4096 % 8 = y2 at *
  generalize v / 128 % 32 = y1 at *
  generalize v % 128 = y0 at *
  generalize v / 1048576 = y4 at *
  generalize v / 32768 = z3 at *
  generalize v / 4096 = z2 at *
  generalize v / 128 = z1 at *
  apply Bool.eq_iff_iff.2
  simp
  omega
set_option maxHeartbeats 1000000 in
theorem hit_S (op v : Int) (h0 : 18 ≤ op) (h1 : op ≤ 21) (hv0 : 0 ≤ v) (hv1 : v < 4294967296) : hitB op v = ((v % 128 == opcI op) && (v / 4096 % 8 == f3I op)) := by
  have hc : clsI op = 4 := (cls_4 (by omega) (by omega)).symm
  have hfx : fixI op = 0 := fix_none (by omega)
  obtain ⟨o0, o1, o2, o3, o4, o5⟩ := codes_bd op
  have p1 : hasRd op = false := decide_eq_false (by omega)
  have p2 : hasRs1 op = true := decide_eq_true (by omega)
  have p3 : hasRs2 op = true := decide_eq_true (by omega)
  have p4 : hasCsr op = false := decide_eq_false (by omega)
  have p5 : hasNum op = true := decide_eq_true (by omega)
  have e1 : gRdI op v = 0 := by unfold gRdI; rw [p1]; rfl
  have e2 : gRs1I op v = v / 32768 % 32 := by unfold gRs1I; rw [p2]; rfl
  have e3 : gRs2I op v = v / 1048576 % 32 := by unfold gRs2I; rw [p3]; rfl
  have e4 : gCsrI op v = 0 := by unfold gCsrI; rw [p4]; rfl
  have e5 : gImmI op v = sgn (v / 33554432 * 32 + v / 128 % 32) 2048 := by
    unfold gImmI
    rw [hc]
    repeat rw [if_neg (by omega)]
    rw [if_pos (by omega)]
    rfl
  have hn0 : ∀ x, numB op x = withinB x (-2048) 2047 1 := fun x => by
    rw [numB, hc]
    repeat rw [if_neg (by omega)]
  have he0 : ∀ rd rs1 rs2 n csr, encI op rd rs1 rs2 n csr = opcI op + f3I op * 4096 + rs1 * 32768 + rs2 * 1048576 + n / 32 % 128 * 33554432 + n % 32 * 128 := fun rd rs1 rs2 n csr => by
    unfold encI
    rw [hc]
    repeat rw [if_neg (by omega)]
    rw [if_pos (by omega)]
  obtain ⟨s0, s1⟩ := sgn_bd (x := v / 33554432 * 32 + v / 128 % 32) (h := 2048) (by omega) (by omega)
  have sm : (sgn (v / 33554432 * 32 + v / 128 % 32) 2048) % 4294967296 % 4096 = v / 33554432 * 32 + v / 128 % 32 := sgn_mod (x := v / 33554432 * 32 + v / 128 % 32) (h := 2048) (by omega) (by omega) 1048576 rfl
  have hi : gIs op v = true := by
    unfold gIs
    rw [e1, e2, e3, e4, e5]
    refine is_of (by rw [hc]; decide) (reg_zero _) (by rw [p2]; exact reg_ok (by omega) (by omega)) (by rw [p3]; exact reg_ok (by omega) (by omega)) (csr_zero _) ?_
    rw [imm_num p5, hn0]
    clear sm
    simp only [withinB, Int.tmod_one, Bool.and_eq_true, decide_eq_true_eq, beq_self_eq_true, and_true]
    omega
  have he : gEnc op v = opcI op + f3I op * 4096 + v / 32768 % 32 * 32768 + v / 1048576 % 32 * 1048576 + v / 33554432 * 33554432 + v / 128 % 32 * 128 := by
    unfold gEnc
    rw [e1, e2, e3, e4, e5, he0]
    have tt := S_parts (n := (sgn (v / 33554432 * 32 + v / 128 % 32) 2048) % 4294967296) (v / 128 % 32) (v / 33554432) (by omega) (by omega) (by omega) (by omega) sm
    obtain ⟨t0, t1⟩ := tt
    rw [t0, t1]
  unfold hitB skipB
  rw [hi, he, hfx]
  have h3 : decide (3 < op) = true := decide_eq_true (by omega)
  rw [h3]
  clear hi he e1 e2 e3 e4 e5 p1 p2 p3 p4 p5 sm s0 s1
  have b0 : 0 ≤ v % 128 ∧ v % 128 < 128 := by omega
  have k0 : v = v % 128 + 128 * (v / 128) := by omega
  have b1 : 0 ≤ v / 128 % 32 ∧ v / 128 % 32 < 32 := by omega
  have k1 : v / 128 = v / 128 % 32 + 32 * (v / 4096) := by omega
  have b2 : 0 ≤ v / 4096 % 8 ∧ v / 4096 % 8 < 8 := by omega
  have k2 : v / 4096 = v / 4096 % 8 + 8 * (v / 32768) := by omega
  have b3 : 0 ≤ v / 32768 % 32 ∧ v / 32768 % 32 < 32 := by omega
  have k3 : v / 32768 = v / 32768 % 32 + 32 * (v / 1048576) := by omega
  have b4 : 0 ≤ v / 1048576 % 32 ∧ v / 1048576 % 32 < 32 := by omega
  have k4 : v / 1048576 = v / 1048576 % 32 + 32 * (v / 33554432) := by omega
  have b5 : 0 ≤ v / 33554432 ∧ v / 33554432 < 128 := by omega
  generalize v / 1048576 % 32 = y4 at *
  generalize v / 32768 % 32 = y3 at *
  generalize v / 4096 % 8 = y2 at *
  generalize v / 128 % 32 = y1 at *
  generalize v % 128 = y0 at *
  generalize v / 33554432 = y5 at *
  generalize v / 1048576 = z4 at *
  generalize v / 32768 = z3 at *
  generalize v / 4096 = z2 at *
  generalize v / 128 = z1 at *
  apply Bool.eq_iff_iff.2
  simp
  omega
set_option maxHeartbeats 1000000 in
theorem hit_I (op v : Int) (h0 : 22 ≤ op) (h1 : op ≤ 27) (hv0 : 0 ≤ v) (hv1 : v < 4294967296) : hitB op v = ((v % 128 == opcI op) && (v / 4096 % 8 == f3I op)) := by
  have hc : clsI op = 5 := (cls_5 (by omega) (by omega)).symm
  have hfx : fixI op = 0 := fix_none (by omega)
  obtain ⟨o0, o1, o2, o3, o4, o5⟩ := codes_bd op
  have p1 : hasRd op = true := decide_eq_true (by omega)
  have p2 : hasRs1 op = true := decide_eq_true (by omega)
  have p3 : hasRs2 op = false := decide_eq_false (by omega)
  have p4 : hasCsr op = false := decide_eq_false (by omega)
  have p5 : hasNum op = true := decide_eq_true (by omega)
  have e1 : gRdI op v = v / 128 % 32 := by unfold gRdI; rw [p1]; rfl
  have e2 : gRs1I op v = v / 32768 % 32 := by unfold gRs1I; rw [p2]; rfl
  have e3 : gRs2I op v = 0 := by unfold gRs2I; rw [p3]; rfl
  have e4 : gCsrI op v = 0 := by unfold gCsrI; rw [p4]; rfl
  have e5 : gImmI op v = sgn (v / 1048576) 2048 := by
    unfold gImmI
    rw [hc]
    repeat rw [if_neg (by omega)]
    rw [if_pos (by omega)]
    rfl
  obtain ⟨s0, s1⟩ := sgn_bd (x := v / 1048576) (h := 2048) (by omega) (by omega)
  have sm : (sgn (v / 1048576) 2048) % 4294967296 % 4096 = v / 1048576 := sgn_mod (x := v / 1048576) (h := 2048) (by omega) (by omega) 1048576 rfl
  have hi : gIs op v = true := by
    unfold gIs
    rw [e1, e2, e3, e4, e5]
    refine is_of (by rw [hc]; decide) (by rw [p1]; exact reg_ok (by omega) (by omega)) (by rw [p2]; exact reg_ok (by omega) (by omega)) (reg_zero _) (csr_zero _) ?_
    rw [imm_num p5, numB, hc]
    repeat rw [if_neg (by omega)]
    simp only [withinB, Int.tmod_one, Bool.and_eq_true, decide_eq_true_eq, beq_self_eq_true, and_true]
    omega
  have he : gEnc op v = opcI op + f3I op * 4096 + v / 32768 % 32 * 32768 + v / 128 % 32 * 128 + v / 1048576 * 1048576 := by
    unfold gEnc encI
    rw [e1, e2, e3, e4, e5, hc]
    repeat rw [if_neg (by omega)]
    generalize (sgn (v / 1048576) 2048) % 4294967296 = n at sm ⊢
    omega
  unfold hitB skipB
  rw [hi, he, hfx]
  have h3 : decide (3 < op) = true := decide_eq_true (by omega)
  rw [h3]
  clear hi he e1 e2 e3 e4 e5 p1 p2 p3 p4 p5 sm s0 s1
  have b0 : 0 ≤ v % 128 ∧ v % 128 < 128 := by omega
  have k0 : v = v % 128 + 128 * (v / 128) := by omega
  have b1 : 0 ≤ v / 128 % 32 ∧ v / 128 % 32 < 32 := by omega
  have k1 : v / 128 = v / 128 % 32 + 32 * (v / 4096) := by omega
  have b2 : 0 ≤ v / 4096 % 8 ∧ v / 4096 % 8 < 8 := by omega
  have k2 : v / 4096 = v / 4096 % 8 + 8 * (v / 32768) := by omega
  have b3 : 0 ≤ v / 32768 % 32 ∧ v / 32768 % 32 < 32 := by omega
  have k3 : v / 32768 = v / 32768 % 32 + 32 * (v / 1048576) := by omega
  have b4 : 0 ≤ v / 1048576 ∧ v / 1048576 < 4096 := by omega
  generalize v / 32768 % 32 = y3 at *
  generalize v / 4096 % 8 = y2 at *
  generalize v / 128 % 32 = y1 at *
  generalize v % 128 = y0 at *
  generalize v / 1048576 = y4 at *
  generalize v / 32768 = z3 at *
  generalize v / 4096 = z2 at *
  generalize v / 128 = z1 at *
  apply Bool.eq_iff_iff.2
  simp
  omega
set_option maxHeartbeats 1000000 in
theorem hit_H (op v : Int) (h0 : 28 ≤ op) (h1 : op ≤ 30) (hv0 : 0 ≤ v) (hv1 : v < 4294967296) : hitB op v = ((v % 128 == opcI op) && (v / 4096 % 8 == f3I op) && (v / 67108864 == f7I op / 2)) := by
  have hc : clsI op = 5 := (cls_5 (by omega) (by omega)).symm
  have hfx : fixI op = 0 := fix_none (by omega)
  obtain ⟨o0, o1, o2, o3, o4, o5⟩ := codes_bd op
  have p1 : hasRd op = true := decide_eq_true (by omega)
  have p2 : hasRs1 op = true := decide_eq_true (by omega)
  have p3 : hasRs2 op = false := decide_eq_false (by omega)
  have p4 : hasCsr op = false := decide_eq_false (by omega)
  have p5 : hasNum op = true := decide_eq_true (by omega)
  have e1 : gRdI op v = v / 128 % 32 := by unfold gRdI; rw [p1]; rfl
  have e2 : gRs1I op v = v / 32768 % 32 := by unfold gRs1I; rw [p2]; rfl
  have e3 : gRs2I op v = 0 := by unfold gRs2I; rw [p3]; rfl
  have e4 : gCsrI op v = 0 := by unfold gCsrI; rw [p4]; rfl
  have e5 : gImmI op v = v / 1048576 % 64 := by
    unfold gImmI
    rw [hc]
    repeat rw [if_neg (by omega)]
    rw [if_pos (by omega)]
    rfl
  have hi : gIs op v = true := by
    unfold gIs
    rw [e1, e2, e3, e4, e5]
    refine is_of (by rw [hc]; decide) (by rw [p1]; exact reg_ok (by omega) (by omega)) (by rw [p2]; exact reg_ok (by omega) (by omega)) (reg_zero _) (csr_zero _) ?_
    rw [imm_num p5, numB, hc]
    repeat rw [if_neg (by omega)]
    rw [if_pos (by omega)]
    simp only [withinB, Int.tmod_one, Bool.and_eq_true, decide_eq_true_eq, beq_self_eq_true, and_true]
    omega
  have he : gEnc op v = opcI op + f3I op * 4096 + v / 32768 % 32 * 32768 + v / 128 % 32 * 128 + v / 1048576 % 64 * 1048576 + f7I op * 33554432 := by
    unfold gEnc encI
    rw [e1, e2, e3, e4, e5, hc]
    repeat rw [if_neg (by omega)]
    rw [if_pos (by omega)]
    omega
  unfold hitB skipB
  rw [hi, he, hfx]
  have h3 : decide (3 < op) = true := decide_eq_true (by omega)
  rw [h3]
  have hev : f7I op % 2 = 0 := codes_even (by omega)
  clear hi he e1 e2 e3 e4 e5 p1 p2 p3 p4 p5
  have b0 : 0 ≤ v % 128 ∧ v % 128 < 128 := by omega
  have k0 : v = v % 128 + 128 * (v / 128) := by omega
  have b1 : 0 ≤ v / 128 % 32 ∧ v / 128 % 32 < 32 := by omega
  have k1 : v / 128 = v / 128 % 32 + 32 * (v / 4096) := by omega
  have b2 : 0 ≤ v / 4096 % 8 ∧ v / 4096 % 8 < 8 := by omega
  have k2 : v / 4096 = v / 4096 % 8 + 8 * (v / 32768) := by omega
  have b3 : 0 ≤ v / 32768 % 32 ∧ v / 32768 % 32 < 32 := by omega
  have k3 : v / 32768 = v / 32768 % 32 + 32 * (v / 1048576) := by omega
  have b4 : 0 ≤ v / 1048576 % 64 ∧ v / 1048576 % 64 < 64 := by omega
  have k4 : v / 1048576 = v / 1048576 % 64 + 64 * (v / 67108864) := by omega
  have b5 : 0 ≤ v / 67108864 ∧ v / 67108864 < 64 := by omega
  generalize v / 1048576 % 64 = y4 at *
  generalize v / 32768 % 32 = y3 at *
  generalize v / 4096 % 8 = y2 at *
  generalize v / 128 % 32 = y1 at *
  generalize v % 128 = y0 at *
  generalize v / 67108864 = y5 at *
  generalize v / 1048576 = z4 at *
  generalize v / 32768 = z3 at *
  generalize v / 4096 = z2 at *
  generalize v / 128 = z1 at *
  apply Bool.eq_iff_iff.2
  simp
  omega
set_option maxHeartbeats 1000000 in
theorem hit_Iw (op v : Int) (h0 : 31 ≤ op) (h1 : op ≤ 31) (hv0 : 0 ≤ v) (hv1 : v < 4294967296) : hitB op v = ((v % 128 == opcI op) && (v / 4096 % 8 == f3I op)) := by
  have hc : clsI op = 5 := (cls_5 (by omega) (by omega)).symm
  have hfx : fixI op = 0 := fix_none (by omega)
  obtain ⟨o0, o1, o2, o3, o4, o5⟩ := codes_bd op
  have p1 : hasRd op = true := decide_eq_true (by omega)
  have p2 : hasRs1 op = true := decide_eq_true (by omega)
  have p3 : hasRs2 op = false := decide_eq_false (by omega)
  have p4 : hasCsr op = false := decide_eq_false (by omega)
  have p5 : hasNum op = true := decide_eq_true (by omega)
  have e1 : gRdI op v = v / 128 % 32 := by unfold gRdI; rw [p1]; rfl
  have e2 : gRs1I op v = v / 32768 % 32 := by unfold gRs1I; rw [p2]; rfl
  have e3 : gRs2I op v = 0 := by unfold gRs2I; rw [p3]; rfl
  have e4 : gCsrI op v = 0 := by unfold gCsrI; rw [p4]; rfl
  have e5 : gImmI op v = sgn (v / 1048576) 2048 := by
    unfold gImmI
    rw [hc]
    repeat rw [if_neg (by omega)]
    rw [if_pos (by omega)]
    rfl
  obtain ⟨s0, s1⟩ := sgn_bd (x := v / 1048576) (h := 2048) (by omega) (by omega)
  have sm : (sgn (v / 1048576) 2048) % 4294967296 % 4096 = v / 1048576 := sgn_mod (x := v / 1048576) (h := 2048) (by omega) (by omega) 1048576 rfl
  have hi : gIs op v = true := by
    unfold gIs
    rw [e1, e2, e3, e4, e5]
    refine is_of (by rw [hc]; decide) (by rw [p1]; exact reg_ok (by omega) (by omega)) (by rw [p2]; exact reg_ok (by omega) (by omega)) (reg_zero _) (csr_zero _) ?_
    rw [imm_num p5, numB, hc]
    repeat rw [if_neg (by omega)]
    simp only [withinB, Int.tmod_one, Bool.and_eq_true, decide_eq_true_eq, beq_self_eq_true, and_true]
    omega
  have he : gEnc op v = opcI op + f3I op * 4096 + v / 32768 % 32 * 32768 + v / 128 % 32 * 128 + v / 1048576 * 1048576 := by
    unfold gEnc encI
    rw [e1, e2, e3, e4, e5, hc]
    repeat rw [if_neg (by omega)]
    generalize (sgn (v / 1048576) 2048) % 4294967296 = n at sm ⊢
    omega
  unfold hitB skipB
  rw [hi, he, hfx]
  have h3 : decide (3 < op) = true := decide_eq_true (by omega)
  rw [h3]
  clear hi he e1 e2 e3 e4 e5 p1 p2 p3 p4 p5 sm s0 s1
  have b0 : 0 ≤ v % 128 ∧ v % 128 < 128 := by omega
  have k0 : v = v % 128 + 128 * (v / 128) := by omega
  have b1 : 0 ≤ v / 128 % 32 ∧ v / 128 % 32 < 32 := by omega
  have k1 : v / 128 = v / 128 % 32 + 32 * (v / 4096) := by omega
  have b2 : 0 ≤ v / 4096 % 8 ∧ v / 4096 % 8 < 8 := by omega
  have k2 : v / 4096 = v / 4096 % 8 + 8 * (v / 32768) := by omega
  have b3 : 0 ≤ v / 32768 % 32 ∧ v / 32768 % 32 < 32 := by omega
  have k3 : v / 32768 = v / 32768 % 32 + 32 * (v / 1048576) := by omega
  have b4 : 0 ≤ v / 1048576 ∧ v / 1048576 < 4096 := by omega
  generalize v / 32768 % 32 = y3 at *
  generalize v / 4096 % 8 = y2 at *
  generalize v / 128 % 32 = y1 at *
  generalize v % 128 = y0 at *
  generalize v / 1048576 = y4 at *
  generalize v / 32768 = z3 at *
  generalize v / 4096 = z2 at *
  generalize v / 128 = z1 at *
  apply Bool.eq_iff_iff.2
  simp
  omega
end Go.Proofs.YtdogjmimjjmmaaaDoor
namespace Go.Proofs.YtdogjmimjjmmaaaDoor
open Go.RowKit
set_option maxHeartbeats 1000000 in
theorem hit_Hw (op v : Int) (h0 : 32 ≤ op) (h1 : op ≤ 34) (hv0 : 0 ≤ v) (hv1 : v < 4294967296) : hitB op v = ((v % 128 == opcI op) && (v / 4096 % 8 == f3I op) && (v / 33554432 == f7I op)) := by
  have hc : clsI op = 5 := (cls_5 (by omega) (by omega)).symm
  have hfx : fixI op = 0 := fix_none (by omega)
  obtain ⟨o0, o1, o2, o3, o4, o5⟩ := codes_bd op
  have p1 : hasRd op = true := decide_eq_true (by omega)
  have p2 : hasRs1 op = true := decide_eq_true (by omega)
  have p3 : hasRs2 op = false := decide_eq_false (by omega)
  have p4 : hasCsr op = false := decide_eq_false (by omega)
  have p5 : hasNum op = true := decide_eq_true (by omega)
  have e1 : gRdI op v = v / 128 % 32 := by unfold gRdI; rw [p1]; rfl
  have e2 : gRs1I op v = v / 32768 % 32 := by unfold gRs1I; rw [p2]; rfl
  have e3 : gRs2I op v = 0 := by unfold gRs2I; rw [p3]; rfl
  have e4 : gCsrI op v = 0 := by unfold gCsrI; rw [p4]; rfl
  have e5 : gImmI op v = v / 1048576 % 32 := by
    unfold gImmI
    rw [hc]
    repeat rw [if_neg (by omega)]
    rw [if_pos (by omega)]
    rfl
  have hi : gIs op v = true := by
    unfold gIs
    rw [e1, e2, e3, e4, e5]
    refine is_of (by rw [hc]; decide) (by rw [p1]; exact reg_ok (by omega) (by omega)) (by rw [p2]; exact reg_ok (by omega) (by omega)) (reg_zero _) (csr_zero _) ?_
    rw [imm_num p5, numB, hc]
    repeat rw [if_neg (by omega)]
    rw [if_pos (by omega)]
    simp only [withinB, Int.tmod_one, Bool.and_eq_true, decide_eq_true_eq, beq_self_eq_true, and_true]
    omega
  have he : gEnc op v = opcI op + f3I op * 4096 + v / 32768 % 32 * 32768 + v / 128 % 32 * 128 + v / 1048576 % 32 * 1048576 + f7I op * 33554432 := by
    unfold gEnc encI
    rw [e1, e2, e3, e4, e5, hc]
    repeat rw [if_neg (by omega)]
    rw [if_pos (by omega)]
    omega
  unfold hitB skipB
  rw [hi, he, hfx]
  have h3 : decide (3 < op) = true := decide_eq_true (by omega)
  rw [h3]
  have hev : f7I op % 2 = 0 := codes_even (by omega)
  clear hi he e1 e2 e3 e4 e5 p1 p2 p3 p4 p5
  have b0 : 0 ≤ v % 128 ∧ v % 128 < 128 := by omega
  have k0 : v = v % 128 + 128 * (v / 128) := by omega
  have b1 : 0 ≤ v / 128 % 32 ∧ v / 128 % 32 < 32 := by omega
  have k1 : v / 128 = v / 128 % 32 + 32 * (v / 4096) := by omega
  have b2 : 0 ≤ v / 4096 % 8 ∧ v / 4096 % 8 < 8 := by omega
  have k2 : v / 4096 = v / 4096 % 8 + 8 * (v / 32768) := by omega
  have b3 : 0 ≤ v / 32768 % 32 ∧ v / 32768 % 32 < 32 := by omega
  have k3 : v / 32768 = v / 32768 % 32 + 32 * (v / 1048576) := by omega
  have b4 : 0 ≤ v / 1048576 % 32 ∧ v / 1048576 % 32 < 32 := by omega
  have k4 : v / 1048576 = v / 1048576 % 32 + 32 * (v / 33554432) := by omega
  have b5 : 0 ≤ v / 33554432 ∧ v / 33554432 < 128 := by omega
  generalize v / 1048576 % 32 = y4 at *
  generalize v / 32768 % 32 = y3 at *
  generalize v / 4096 % 8 = y2 at *
  generalize v / 128 % 32 = y1 at *
  generalize v % 128 = y0 at *
  generalize v / 33554432 = y5 at *
  generalize v / 1048576 = z4 at *
  generalize v / 32768 = z3 at *
  generalize v / 4096 = z2 at *
  generalize v / 128 = z1 at *
  apply Bool.eq_iff_iff.2
  simp
  omega
set_option maxHeartbeats 1000000 in
theorem hit_R (op v : Int) (h0 : 35 ≤ op) (h1 : op ≤ 49) (hv0 : 0 ≤ v) (hv1 : v < 4294967296) : hitB op v = ((v % 128 == opcI op) && (v / 4096 % 8 == f3I op) && (v / 33554432 == f7I op)) := by
  have hc : clsI op = 6 := (cls_6 (by omega) (by omega)).symm
  have hfx : fixI op = 0 := fix_none (by omega)
  obtain ⟨o0, o1, o2, o3, o4, o5⟩ := codes_bd op
  have p1 : hasRd op = true := decide_eq_true (by omega)
  have p2 : hasRs1 op = true := decide_eq_true (by omega)
  have p3 : hasRs2 op = true := decide_eq_true (by omega)
  have p4 : hasCsr op = false := decide_eq_false (by omega)
  have p5 : hasNum op = false := decide_eq_false (by omega)
  have e1 : gRdI op v = v / 128 % 32 := by unfold gRdI; rw [p1]; rfl
  have e2 : gRs1I op v = v / 32768 % 32 := by unfold gRs1I; rw [p2]; rfl
  have e3 : gRs2I op v = v / 1048576 % 32 := by unfold gRs2I; rw [p3]; rfl
  have e4 : gCsrI op v = 0 := by unfold gCsrI; rw [p4]; rfl
  have e5 : gImmI op v = 0 := by
    unfold gImmI
    rw [hc]
    repeat rw [if_neg (by omega)]
  have hi : gIs op v = true := by
    unfold gIs
    rw [e1, e2, e3, e4, e5]
    refine is_of (by rw [hc]; decide) (by rw [p1]; exact reg_ok (by omega) (by omega)) (by rw [p2]; exact reg_ok (by omega) (by omega)) (by rw [p3]; exact reg_ok (by omega) (by omega)) (csr_zero _) ?_
    exact imm_none p5
  have he : gEnc op v = opcI op + f3I op * 4096 + v / 32768 % 32 * 32768 + v / 128 % 32 * 128 + v / 1048576 % 32 * 1048576 + f7I op * 33554432 := by
    unfold gEnc encI
    rw [e1, e2, e3, e4, e5, hc]
    repeat rw [if_neg (by omega)]
    rw [if_pos (by omega)]
  unfold hitB skipB
  rw [hi, he, hfx]
  have h3 : decide (3 < op) = true := decide_eq_true (by omega)
  rw [h3]
  clear hi he e1 e2 e3 e4 e5 p1 p2 p3 p4 p5
  have b0 : 0 ≤ v % 128 ∧ v % 128 < 128 := by omega
  have k0 : v = v % 128 + 128 * (v / 128) := by omega
  have b1 : 0 ≤ v / 128 % 32 ∧ v / 128 % 32 < 32 := by omega
  have k1 : v / 128 = v / 128 % 32 + 32 * (v / 4096) := by omega
  have b2 : 0 ≤ v / 4096 % 8 ∧ v / 4096 % 8 < 8 := by omega
  have k2 : v / 4096 = v / 4096 % 8 + 8 * (v / 32768) := by omega
  have b3 : 0 ≤ v / 32768 % 32 ∧ v / 32768 % 32 < 32 := by omega
  have k3 : v / 32768 = v / 32768 % 32 + 32 * (v / 1048576) := by omega
  have b4 : 0 ≤ v / 1048576 % 32 ∧ v / 1048576 % 32 < 32 := by omega
  have k4 : v / 1048576 = v / 1048576 % 32 + 32 * (v / 33554432) := by omega
  have b5 : 0 ≤ v / 33554432 ∧ v / 33554432 < 128 := by omega
  generalize v / 1048576 % 32 = y4 at *
  generalize v / 32768 % 32 = y3 at *
  generalize v / 4096 % 8 = y2 at *
  generalize v / 128 % 32 = y1 at *
  generalize v % 128 = y0 at *
  generalize v / 33554432 = y5 at *
  generalize v / 1048576 = z4 at *
  generalize v / 32768 = z3 at *
  generalize v / 4096 = z2 at *
  generalize v / 128 = z1 at *
  apply Bool.eq_iff_iff.2
  simp
  omega
set_option maxHeartbeats 1000000 in
theorem hit_C (op v : Int) (h0 : 54 ≤ op) (h1 : op ≤ 56) (hv0 : 0 ≤ v) (hv1 : v < 4294967296) : hitB op v = ((v % 128 == opcI op) && (v / 4096 % 8 == f3I op)) := by
  have hc : clsI op = 9 := (cls_9 (by omega) (by omega)).symm
  have hfx : fixI op = 0 := fix_none (by omega)
  obtain ⟨o0, o1, o2, o3, o4, o5⟩ := codes_bd op
  have p1 : hasRd op = true := decide_eq_true (by omega)
  have p2 : hasRs1 op = true := decide_eq_true (by omega)
  have p3 : hasRs2 op = false := decide_eq_false (by omega)
  have p4 : hasCsr op = true := decide_eq_true (by omega)
  have p5 : hasNum op = false := decide_eq_false (by omega)
  have e1 : gRdI op v = v / 128 % 32 := by unfold gRdI; rw [p1]; rfl
  have e2 : gRs1I op v = v / 32768 % 32 := by unfold gRs1I; rw [p2]; rfl
  have e3 : gRs2I op v = 0 := by unfold gRs2I; rw [p3]; rfl
  have e4 : gCsrI op v = v / 1048576 := by unfold gCsrI; rw [p4]; rfl
  have e5 : gImmI op v = 0 := by
    unfold gImmI
    rw [hc]
    repeat rw [if_neg (by omega)]
  have hi : gIs op v = true := by
    unfold gIs
    rw [e1, e2, e3, e4, e5]
    refine is_of (by rw [hc]; decide) (by rw [p1]; exact reg_ok (by omega) (by omega)) (by rw [p2]; exact reg_ok (by omega) (by omega)) (reg_zero _) (by rw [p4]; exact csr_ok (by omega) (by omega)) ?_
    exact imm_none p5
  have he : gEnc op v = opcI op + f3I op * 4096 + v / 32768 % 32 * 32768 + v / 128 % 32 * 128 + v / 1048576 * 1048576 := by
    unfold gEnc encI
    rw [e1, e2, e3, e4, e5, hc]
    repeat rw [if_neg (by omega)]
    rw [if_pos (by omega)]
  unfold hitB skipB
  rw [hi, he, hfx]
  have h3 : decide (3 < op) = true := decide_eq_true (by omega)
  rw [h3]
  clear hi he e1 e2 e3 e4 e5 p1 p2 p3 p4 p5
  have b0 : 0 ≤ v % 128 ∧ v % 128 < 128 := by omega
  have k0 : v = v % 128 + 128 * (v / 128) := by omega
  have b1 : 0 ≤ v / 128 % 32 ∧ v / 128 % 32 < 32 := by omega
  have k1 : v / 128 = v / 128 % 32 + 32 * (v / 4096) := by omega
  have b2 : 0 ≤ v / 4096 % 8 ∧ v / 4096 % 8 < 8 := by omega
  have k2 : v / 4096 = v / 4096 % 8 + 8 * (v / 32768) := by omega
  have b3 : 0 ≤ v / 32768 % 32 ∧ v / 32768 % 32 < 32 := by omega
  have k3 : v / 32768 = v / 32768 % 32 + 32 * (v / 1048576) := by omega
  have b4 : 0 ≤ v / 1048576 ∧ v / 1048576 < 4096 := by omega
  generalize v / 32768 % 32 = y3 at *
  generalize v / 4096 % 8 = y2 at *
  generalize v / 128 % 32 = y1 at *
  generalize v % 128 = y0 at *
  generalize v / 1048576 = y4 at *
  generalize v / 32768 = z3 at *
  generalize v / 4096 = z2 at *
  generalize v / 128 = z1 at *
  apply Bool.eq_iff_iff.2
  simp
  omega
set_option maxHeartbeats 1000000 in
theorem hit_Ci (op v : Int) (h0 : 57 ≤ op) (h1 : op ≤ 59) (hv0 : 0 ≤ v) (hv1 : v < 4294967296) : hitB op v = ((v % 128 == opcI op) && (v / 4096 % 8 == f3I op)) := by
  have hc : clsI op = 9 := (cls_9 (by omega) (by omega)).symm
  have hfx : fixI op = 0 := fix_none (by omega)
  obtain ⟨o0, o1, o2, o3, o4, o5⟩ := codes_bd op
  have p1 : hasRd op = true := decide_eq_true (by omega)
  have p2 : hasRs1 op = false := decide_eq_false (by omega)
  have p3 : hasRs2 op = false := decide_eq_false (by omega)
  have p4 : hasCsr op = true := decide_eq_true (by omega)
  have p5 : hasNum op = true := decide_eq_true (by omega)
  have e1 : gRdI op v = v / 128 % 32 := by unfold gRdI; rw [p1]; rfl
  have e2 : gRs1I op v = 0 := by unfold gRs1I; rw [p2]; rfl
  have e3 : gRs2I op v = 0 := by unfold gRs2I; rw [p3]; rfl
  have e4 : gCsrI op v = v / 1048576 := by unfold gCsrI; rw [p4]; rfl
  have e5 : gImmI op v = v / 32768 % 32 := by
    unfold gImmI
    rw [hc]
    repeat rw [if_neg (by omega)]
    rw [if_pos (by omega)]
    rfl
  have hi : gIs op v = true := by
    unfold gIs
    rw [e1, e2, e3, e4, e5]
    refine is_of (by rw [hc]; decide) (by rw [p1]; exact reg_ok (by omega) (by omega)) (reg_zero _) (reg_zero _) (by rw [p4]; exact csr_ok (by omega) (by omega)) ?_
    rw [imm_num p5, numB, hc]
    repeat rw [if_neg (by omega)]
    rw [if_pos (by omega)]
    simp only [withinB, Int.tmod_one, Bool.and_eq_true, decide_eq_true_eq, beq_self_eq_true, and_true]
    omega
  have he : gEnc op v = opcI op + f3I op * 4096 + v / 128 % 32 * 128 + v / 32768 % 32 * 32768 + v / 1048576 * 1048576 := by
    unfold gEnc encI
    rw [e1, e2, e3, e4, e5, hc]
    repeat rw [if_neg (by omega)]
    rw [if_pos (by omega)]
    omega
  unfold hitB skipB
  rw [hi, he, hfx]
  have h3 : decide (3 < op) = true := decide_eq_true (by omega)
  rw [h3]
  clear hi he e1 e2 e3 e4 e5 p1 p2 p3 p4 p5
  have b0 : 0 ≤ v % 128 ∧ v % 128 < 128 := by omega
  have k0 : v = v % 128 + 128 * (v / 128) := by omega
  have b1 : 0 ≤ v / 128 % 32 ∧ v / 128 % 32 < 32 := by omega
  have k1 : v / 128 = v / 128 % 32 + 32 * (v / 4096) := by omega
  have b2 : 0 ≤ v / 4096 % 8 ∧ v / 4096 % 8 < 8 := by omega
  have k2 : v / 4096 = v / 4096 % 8 + 8 * (v / 32768) := by omega
  have b3 : 0 ≤ v / 32768 % 32 ∧ v / 32768 % 32 < 32 := by omega
  have k3 : v / 32768 = v / 32768 % 32 + 32 * (v / 1048576) := by omega
  have b4 : 0 ≤ v / 1048576 ∧ v / 1048576 < 4096 := by omega
  generalize v / 32768 % 32 = y3 at *
  generalize v / 4096 % 8 = y2 at *
  generalize v / 128 % 32 = y1 at *
  generalize v % 128 = y0 at *
  generalize v / 1048576 = y4 at *
  generalize v / 32768 = z3 at *
  generalize v / 4096 = z2 at *
  generalize v / 128 = z1 at *
  apply Bool.eq_iff_iff.2
  simp
  omega
set_option maxHeartbeats 1000000 in
theorem hit_V (op v : Int) (h0 : 63 ≤ op) (h1 : op ≤ 65) (hv0 : 0 ≤ v) (hv1 : v < 4294967296) : hitB op v = ((v % 128 == opcI op) && (v / 4096 % 8 == f3I op) && (v / 33554432 == f7I op) && (v / 128 % 32 == 0)) := by
  have hc : clsI op = 11 := (cls_11 (by omega) (by omega)).symm
  have hfx : fixI op = 0 := fix_none (by omega)
  obtain ⟨o0, o1, o2, o3, o4, o5⟩ := codes_bd op
  have p1 : hasRd op = false := decide_eq_false (by omega)
  have p2 : hasRs1 op = true := decide_eq_true (by omega)
  have p3 : hasRs2 op = true := decide_eq_true (by omega)
  have p4 : hasCsr op = false := decide_eq_false (by omega)
  have p5 : hasNum op = false := decide_eq_false (by omega)
  have e1 : gRdI op v = 0 := by unfold gRdI; rw [p1]; rfl
  have e2 : gRs1I op v = v / 32768 % 32 := by unfold gRs1I; rw [p2]; rfl
  have e3 : gRs2I op v = v / 1048576 % 32 := by unfold gRs2I; rw [p3]; rfl
  have e4 : gCsrI op v = 0 := by unfold gCsrI; rw [p4]; rfl
  have e5 : gImmI op v = 0 := by
    unfold gImmI
    rw [hc]
    repeat rw [if_neg (by omega)]
  have hi : gIs op v = true := by
    unfold gIs
    rw [e1, e2, e3, e4, e5]
    refine is_of (by rw [hc]; decide) (reg_zero _) (by rw [p2]; exact reg_ok (by omega) (by omega)) (by rw [p3]; exact reg_ok (by omega) (by omega)) (csr_zero _) ?_
    exact imm_none p5
  have he : gEnc op v = opcI op + f3I op * 4096 + v / 32768 % 32 * 32768 + 0 * 128 + v / 1048576 % 32 * 1048576 + f7I op * 33554432 := by
    unfold gEnc encI
    rw [e1, e2, e3, e4, e5, hc]
    repeat rw [if_neg (by omega)]
    rw [if_pos (by omega)]
  unfold hitB skipB
  rw [hi, he, hfx]
  have h3 : decide (3 < op) = true := decide_eq_true (by omega)
  rw [h3]
  clear hi he e1 e2 e3 e4 e5 p1 p2 p3 p4 p5
  have b0 : 0 ≤ v % 128 ∧ v % 128 < 128 := by omega
  have k0 : v = v % 128 + 128 * (v / 128) := by omega
  have b1 : 0 ≤ v / 128 % 32 ∧ v / 128 % 32 < 32 := by omega
  have k1 : v / 128 = v / 128 % 32 + 32 * (v / 4096) := by omega
  have b2 : 0 ≤ v / 4096 % 8 ∧ v / 4096 % 8 < 8 := by omega
  have k2 : v / 4096 = v / 4096 % 8 + 8 * (v / 32768) := by omega
  have b3 : 0 ≤ v / 32768 % 32 ∧ v / 32768 % 32 < 32 := by omega
  have k3 : v / 32768 = v / 32768 % 32 + 32 * (v / 1048576) := by omega
  have b4 : 0 ≤ v / 1048576 % 32 ∧ v / 1048576 % 32 < 32 := by omega
  have k4 : v / 1048576 = v / 1048576 % 32 + 32 * (v / 33554432) := by omega
  have b5 : 0 ≤ v / 33554432 ∧ v / 33554432 < 128 := by omega
  generalize v / 1048576 % 32 = y4 at *
  generalize v / 32768 % 32 = y3 at *
  generalize v / 4096 % 8 = y2 at *
  generalize v / 128 % 32 = y1 at *
  generalize v % 128 = y0 at *
  generalize v / 33554432 = y5 at *
  generalize v / 1048576 = z4 at *
  generalize v / 32768 = z3 at *
  generalize v / 4096 = z2 at *
  generalize v / 128 = z1 at *
  apply Bool.eq_iff_iff.2
  simp
  omega
set_option maxHeartbeats 1000000 in
theorem hit_Gs (op v : Int) (h0 : 69 ≤ op) (h1 : op ≤ 69) (hv0 : 0 ≤ v) (hv1 : v < 4294967296) : hitB op v = ((v % 128 == opcI op) && (v / 4096 % 8 == f3I op) && (v / 33554432 == f7I op) && (v / 128 % 32 == 0)) := by
  have hc : clsI op = 12 := (cls_12 (by omega) (by omega)).symm
  have hfx : fixI op = 0 := fix_none (by omega)
  obtain ⟨o0, o1, o2, o3, o4, o5⟩ := codes_bd op
  have p1 : hasRd op = false := decide_eq_false (by omega)
  have p2 : hasRs1 op = true := decide_eq_true (by omega)
  have p3 : hasRs2 op = true := decide_eq_true (by omega)
  have p4 : hasCsr op = false := decide_eq_false (by omega)
  have p5 : hasNum op = false := decide_eq_false (by omega)
  have e1 : gRdI op v = 0 := by unfold gRdI; rw [p1]; rfl
  have e2 : gRs1I op v = v / 32768 % 32 := by unfold gRs1I; rw [p2]; rfl
  have e3 : gRs2I op v = v / 1048576 % 32 := by unfold gRs2I; rw [p3]; rfl
  have e4 : gCsrI op v = 0 := by unfold gCsrI; rw [p4]; rfl
  have e5 : gImmI op v = 0 := by
    unfold gImmI
    rw [hc]
    repeat rw [if_neg (by omega)]
  have hi : gIs op v = true := by
    unfold gIs
    rw [e1, e2, e3, e4, e5]
    refine is_of (by rw [hc]; decide) (reg_zero _) (by rw [p2]; exact reg_ok (by omega) (by omega)) (by rw [p3]; exact reg_ok (by omega) (by omega)) (csr_zero _) ?_
    exact imm_none p5
  have he : gEnc op v = opcI op + f3I op * 4096 + v / 32768 % 32 * 32768 + 0 * 128 + v / 1048576 % 32 * 1048576 + f7I op * 33554432 := by
    unfold gEnc encI
    rw [e1, e2, e3, e4, e5, hc]
    repeat rw [if_neg (by omega)]
    rw [if_pos (by omega)]
  unfold hitB skipB
  rw [hi, he, hfx]
  have h3 : decide (3 < op) = true := decide_eq_true (by omega)
  rw [h3]
  clear hi he e1 e2 e3 e4 e5 p1 p2 p3 p4 p5
  have b0 : 0 ≤ v % 128 ∧ v % 128 < 128 := by omega
  have k0 : v = v % 128 + 128 * (v / 128) := by omega
  have b1 : 0 ≤ v / 128 % 32 ∧ v / 128 % 32 < 32 := by omega
  have k1 : v / 128 = v / 128 % 32 + 32 * (v / 4096) := by omega
  have b2 : 0 ≤ v / 4096 % 8 ∧ v / 4096 % 8 < 8 := by omega
  have k2 : v / 4096 = v / 4096 % 8 + 8 * (v / 32768) := by omega
  have b3 : 0 ≤ v / 32768 % 32 ∧ v / 32768 % 32 < 32 := by omega
  have k3 : v / 32768 = v / 32768 % 32 + 32 * (v / 1048576) := by omega
  have b4 : 0 ≤ v / 1048576 % 32 ∧ v / 1048576 % 32 < 32 := by omega
  have k4 : v / 1048576 = v / 1048576 % 32 + 32 * (v / 33554432) := by omega
  have b5 : 0 ≤ v / 33554432 ∧ v / 33554432 < 128 := by omega
  generalize v / 1048576 % 32 = y4 at *
  generalize v / 32768 % 32 = y3 at *
  generalize v / 4096 % 8 = y2 at *
  generalize v / 128 % 32 = y1 at *
  generalize v % 128 = y0 at *
  generalize v / 33554432 = y5 at *
  generalize v / 1048576 = z4 at *
  generalize v / 32768 = z3 at *
  generalize v / 4096 = z2 at *
  generalize v / 128 = z1 at *
  apply Bool.eq_iff_iff.2
  simp
  omega
set_option maxHeartbeats 1000000 in
theorem hit_G (op v : Int) (h0 : 66 ≤ op) (h1 : op ≤ 67) (hv0 : 0 ≤ v) (hv1 : v < 4294967296) : hitB op v = ((v % 128 == opcI op) && (v / 4096 % 8 == f3I op) && (v / 33554432 == f7I op) && (v / 1048576 % 32 == 0)) := by
  have hc : clsI op = 12 := (cls_12 (by omega) (by omega)).symm
  have hfx : fixI op = 0 := fix_none (by omega)
  obtain ⟨o0, o1, o2, o3, o4, o5⟩ := codes_bd op
  have p1 : hasRd op = true := decide_eq_true (by omega)
  have p2 : hasRs1 op = true := decide_eq_true (by omega)
  have p3 : hasRs2 op = false := decide_eq_false (by omega)
  have p4 : hasCsr op = false := decide_eq_false (by omega)
  have p5 : hasNum op = false := decide_eq_false (by omega)
  have e1 : gRdI op v = v / 128 % 32 := by unfold gRdI; rw [p1]; rfl
  have e2 : gRs1I op v = v / 32768 % 32 := by unfold gRs1I; rw [p2]; rfl
  have e3 : gRs2I op v = 0 := by unfold gRs2I; rw [p3]; rfl
  have e4 : gCsrI op v = 0 := by unfold gCsrI; rw [p4]; rfl
  have e5 : gImmI op v = 0 := by
    unfold gImmI
    rw [hc]
    repeat rw [if_neg (by omega)]
  have hi : gIs op v = true := by
    unfold gIs
    rw [e1, e2, e3, e4, e5]
    refine is_of (by rw [hc]; decide) (by rw [p1]; exact reg_ok (by omega) (by omega)) (by rw [p2]; exact reg_ok (by omega) (by omega)) (reg_zero _) (csr_zero _) ?_
    exact imm_none p5
  have he : gEnc op v = opcI op + f3I op * 4096 + v / 32768 % 32 * 32768 + v / 128 % 32 * 128 + f7I op * 33554432 := by
    unfold gEnc encI
    rw [e1, e2, e3, e4, e5, hc]
    repeat rw [if_neg (by omega)]
    rw [if_pos (by omega)]
  unfold hitB skipB
  rw [hi, he, hfx]
  have h3 : decide (3 < op) = true := decide_eq_true (by omega)
  rw [h3]
  clear hi he e1 e2 e3 e4 e5 p1 p2 p3 p4 p5
  have b0 : 0 ≤ v % 128 ∧ v % 128 < 128 := by omega
  have k0 : v = v % 128 + 128 * (v / 128) := by omega
  have b1 : 0 ≤ v / 128 % 32 ∧ v / 128 % 32 < 32 := by omega
  have k1 : v / 128 = v / 128 % 32 + 32 * (v / 4096) := by omega
  have b2 : 0 ≤ v / 4096 % 8 ∧ v / 4096 % 8 < 8 := by omega
  have k2 : v / 4096 = v / 4096 % 8 + 8 * (v / 32768) := by omega
  have b3 : 0 ≤ v / 32768 % 32 ∧ v / 32768 % 32 < 32 := by omega
  have k3 : v / 32768 = v / 32768 % 32 + 32 * (v / 1048576) := by omega
  have b4 : 0 ≤ v / 1048576 % 32 ∧ v / 1048576 % 32 < 32 := by omega
  have k4 : v / 1048576 = v / 1048576 % 32 + 32 * (v / 33554432) := by omega
  have b5 : 0 ≤ v / 33554432 ∧ v / 33554432 < 128 := by omega
  generalize v / 1048576 % 32 = y4 at *
  generalize v / 32768 % 32 = y3 at *
  generalize v / 4096 % 8 = y2 at *
  generalize v / 128 % 32 = y1 at *
  generalize v % 128 = y0 at *
  generalize v / 33554432 = y5 at *
  generalize v / 1048576 = z4 at *
  generalize v / 32768 = z3 at *
  generalize v / 4096 = z2 at *
  generalize v / 128 = z1 at *
  apply Bool.eq_iff_iff.2
  simp
  omega
set_option maxHeartbeats 1000000 in
theorem hit_X (op v : Int) (h0 : 68 ≤ op) (h1 : op ≤ 68) (hv0 : 0 ≤ v) (hv1 : v < 4294967296) : hitB op v = ((v % 128 == opcI op) && (v / 4096 % 8 == f3I op) && (v / 33554432 == f7I op) && (v / 1048576 % 32 == 3)) := by
  have hc : clsI op = 12 := (cls_12 (by omega) (by omega)).symm
  have hfx : fixI op = 0 := fix_none (by omega)
  obtain ⟨o0, o1, o2, o3, o4, o5⟩ := codes_bd op
  have p1 : hasRd op = true := decide_eq_true (by omega)
  have p2 : hasRs1 op = true := decide_eq_true (by omega)
  have p3 : hasRs2 op = false := decide_eq_false (by omega)
  have p4 : hasCsr op = false := decide_eq_false (by omega)
  have p5 : hasNum op = false := decide_eq_false (by omega)
  have e1 : gRdI op v = v / 128 % 32 := by unfold gRdI; rw [p1]; rfl
  have e2 : gRs1I op v = v / 32768 % 32 := by unfold gRs1I; rw [p2]; rfl
  have e3 : gRs2I op v = 0 := by unfold gRs2I; rw [p3]; rfl
  have e4 : gCsrI op v = 0 := by unfold gCsrI; rw [p4]; rfl
  have e5 : gImmI op v = 0 := by
    unfold gImmI
    rw [hc]
    repeat rw [if_neg (by omega)]
  have hi : gIs op v = true := by
    unfold gIs
    rw [e1, e2, e3, e4, e5]
    refine is_of (by rw [hc]; decide) (by rw [p1]; exact reg_ok (by omega) (by omega)) (by rw [p2]; exact reg_ok (by omega) (by omega)) (reg_zero _) (csr_zero _) ?_
    exact imm_none p5
  have he : gEnc op v = opcI op + f3I op * 4096 + v / 32768 % 32 * 32768 + v / 128 % 32 * 128 + 3145728 + f7I op * 33554432 := by
    unfold gEnc encI
    rw [e1, e2, e3, e4, e5, hc]
    repeat rw [if_neg (by omega)]
    rw [if_pos (by omega)]
  unfold hitB skipB
  rw [hi, he, hfx]
  have h3 : decide (3 < op) = true := decide_eq_true (by omega)
  rw [h3]
  clear hi he e1 e2 e3 e4 e5 p1 p2 p3 p4 p5
  have b0 : 0 ≤ v % 128 ∧ v % 128 < 128 := by omega
  have k0 : v = v % 128 + 128 * (v / 128) := by omega
  have b1 : 0 ≤ v / 128 % 32 ∧ v / 128 % 32 < 32 := by omega
  have k1 : v / 128 = v / 128 % 32 + 32 * (v / 4096) := by omega
  have b2 : 0 ≤ v / 4096 % 8 ∧ v / 4096 % 8 < 8 := by omega
  have k2 : v / 4096 = v / 4096 % 8 + 8 * (v / 32768) := by omega
  have b3 : 0 ≤ v / 32768 % 32 ∧ v / 32768 % 32 < 32 := by omega
  have k3 : v / 32768 = v / 32768 % 32 + 32 * (v / 1048576) := by omega
  have b4 : 0 ≤ v / 1048576 % 32 ∧ v / 1048576 % 32 < 32 := by omega
  have k4 : v / 1048576 = v / 1048576 % 32 + 32 * (v / 33554432) := by omega
  have b5 : 0 ≤ v / 33554432 ∧ v / 33554432 < 128 := by omega
  generalize v / 1048576 % 32 = y4 at *
  generalize v / 32768 % 32 = y3 at *
  generalize v / 4096 % 8 = y2 at *
  generalize v / 128 % 32 = y1 at *
  generalize v % 128 = y0 at *
  generalize v / 33554432 = y5 at *
  generalize v / 1048576 = z4 at *
  generalize v / 32768 = z3 at *
  generalize v / 4096 = z2 at *
  generalize v / 128 = z1 at *
  apply Bool.eq_iff_iff.2
  simp
  omega
end Go.Proofs.YtdogjmimjjmmaaaDoor
