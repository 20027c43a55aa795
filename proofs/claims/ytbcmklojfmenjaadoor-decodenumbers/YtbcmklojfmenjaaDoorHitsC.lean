/-
  Which words an operation has, as the document's words tell it: the operation's codes, and noughts where it has no field.
-/
import Derived.Test.YtbcmklojfmenjaaDoorHitsA
namespace Go.Proofs.YtbcmklojfmenjaaDoor
open Go.RowKit
set_option maxHeartbeats 1000000 in
theorem hit_L (op v : Int) (h0 : 11 ≤ op) (h1 : op ≤ 17) (hv0 : 0 ≤ v) (hv1 : v < 4294967296) : hitB op v = ((v % 128 == opcI op) && (v / 4096 % 8 == f3I op)) := by
  have hc : clsI op = 3 := (cls_3 (by omega) (by omega)).symm
  have hfx : fixI op = 0 := fix_none (by omega)
  obtain ⟨o0, o1, o2, o3, o4, o5⟩ := codes_bd op
  have p1 : hasRd op = true := decide_eq_true (by omega)
  have p2 : hasRs1 op = true := decide_eq_true (by omega)
  have p3 : hasRs2 op = false := decide_eq_false (by omega)
  have p4 : hasCsr op = false := decide_eq_false (by omega)
  have p5 : hasNum op = true := decide_eq_true (by omega)
  have e1 : gRdI op v = v / 128 % 32 := by unfold gRdI; rw [p1]; rfl
  have e2 : gRs1I op v = v / 32768 % 32 := by unfold gRs1I; rw [p2]; rfl
  have e3 : gRs2I op v = 0 := by unfold gRs2I; rw [p3]; rfl
  have e4 : gCsrI op v = 0 := by unfold gCsrI; rw [p4]; rfl
  have e5 : gImmI op v = sgn (v / 1048576) 2048 := by
    unfold gImmI
    rw [hc]
    repeat rw [if_neg (by omega)]
    rw [if_pos (by omega)]
    rfl
  obtain ⟨s0, s1⟩ := sgn_bd (x := v / 1048576) (h := 2048) (by omega) (by omega)
  have sm : (sgn (v / 1048576) 2048) % 4294967296 % 4096 = v / 1048576 := sgn_mod (x := v / 1048576) (h := 2048) (by omega) (by omega) 1048576 rfl
  have hi : gIs op v = true := by
    unfold gIs
    rw [e1, e2, e3, e4, e5]
    refine is_of (by rw [hc]; decide) (by rw [p1]; exact reg_ok (by omega) (by omega)) (by rw [p2]; exact reg_ok (by omega) (by omega)) (reg_zero _) (csr_zero _) ?_
    rw [imm_num p5, numB, hc]
    repeat rw [if_neg (by omega)]
    simp only [withinB, Int.tmod_one, Bool.and_eq_true, decide_eq_true_eq, beq_self_eq_true, and_true]
    omega
  have he : gEnc op v = opcI op + f3I op * 4096 + v / 32768 % 32 * 32768 + v / 128 % 32 * 128 + v / 1048576 * 1048576 := by
    unfold gEnc encI
    rw [e1, e2, e3, e4, e5, hc]
    repeat rw [if_neg (by omega)]
    generalize (sgn (v / 1048576) 2048) % 4294967296 = n at sm ⊢
    omega
  unfold hitB skipB
  rw [hi, he, hfx]
  have h3 : decide (3 < op) = true := decide_eq_true (by omega)
  rw [h3]
  clear hi he e1 e2 e3 e4 e5 p1 p2 p3 p4 p5 sm s0 s1
  have b0 : 0 ≤ v % 128 ∧ v % 128 < 128 := by omega
  have k0 : v = v % 128 + 128 * (v / 128) := by omega
  have b1 : 0 ≤ v / 128 % 32 ∧ v / 128 % 32 < 32 := by omega
  have k1 : v / 128 = v / 128 % 32 + 32 * (v / 4096) := by omega
  have b2 : 0 ≤ v / 4096 % 8 ∧ v / 4096 % 8 < 8 := by omega
  have k2 : v / 4096 = v / 4096 % 8 + 8 * (v / 32768) := by omega
  have b3 : 0 ≤ v / 32768 % 32 ∧ v / 32768 % 32 < 32 := by omega
  have k3 : v / 32768 = v / 32768 % 32 + 32 * (v / 1048576) := by omega
  have b4 : 0 ≤ v / 1048576 ∧ v / 1048576 < 4096 := by omega
  generalize v / 32768 % 32 = y3 at *
  generalize v / 4096 % 8 = y2 at *
  generalize v / 128 % 32 = y1 at *
  generalize v % 128 = y0 at *
  generalize v / 1048576 = y4 at *
  generalize v / 32768 = z3 at *
  generalize v / 4096 = z2 at *
  generalize v / 128 = z1 at *
  apply Bool.eq_iff_iff.2
  simp
  omega
set_option maxHeartbeats 1000000 in
theorem hit_S (op v : Int) (h0 : 18 ≤ op) (h1 : op ≤ 21) (hv0 : 0 ≤ v) (hv1 : v < 4294967296) : hitB op v = ((v % 128 == opcI op) && (v / 4096 % 8 == f3I op)) := by
  have hc : clsI op = 4 := (cls_4 (by omega) (by omega)).symm
  have hfx : fixI op = 0 := fix_none (by omega)
  obtain ⟨o0, o1, o2, o3, o4, o5⟩ := codes_bd op
  have p1 : hasRd op = false := decide_eq_false (by omega)
  have p2 : hasRs1 op = true := decide_eq_true (by omega)
  have p3 : hasRs2 op = true := decide_eq_true (by omega)
  have p4 : hasCsr op = false := decide_eq_false (by omega)
  have p5 : hasNum op = true := decide_eq_true (by omega)
  have e1 : gRdI op v = 0 := by unfold gRdI; rw [p1]; rfl
  have e2 : gRs1I op v = v / 32768 % 32 := by unfold gRs1I; rw [p2]; rfl
  have e3 : gRs2I op v = v / 1048576 % 32 := by unfold gRs2I; rw [p3]; rfl
  have e4 : gCsrI op v = 0 := by unfold gCsrI; rw [p4]; rfl
  have e5 : gImmI op v = sgn (v / 33554432 * 32 + v / 128 % 32) 2048 := by
    unfold gImmI
    rw [hc]
    repeat rw [if_neg (by omega)]
    rw [if_pos (by omega)]
    rfl
  have hn0 : ∀ x, numB op x = withinB x (-2048) 2047 1 := fun x => by
    rw [numB, hc]
    repeat rw [if_neg (by omega)]
  have he0 : ∀ rd rs1 rs2 n csr, encI op rd rs1 rs2 n csr = opcI op + f3I op * 4096 + rs1 * 32768 + rs2 * 1048576 + n / 32 % 128 * 33554432 + n % 32 * 128 := fun rd rs1 rs2 n csr => by
    unfold encI
    rw [hc]
    repeat rw [if_neg (by omega)]
    rw [if_pos (by omega)]
  obtain ⟨s0, s1⟩ := sgn_bd (x := v / 33554432 * 32 + v / 128 % 32) (h := 2048) (by omega) (by omega)
  have sm : (sgn (v / 33554432 * 32 + v / 128 % 32) 2048) % 4294967296 % 4096 = v / 33554432 * 32 + v / 128 % 32 := sgn_mod (x := v / 33554432 * 32 + v / 128 % 32) (h := 2048) (by omega) (by omega) 1048576 rfl
  have hi : gIs op v = true := by
    unfold gIs
    rw [e1, e2, e3, e4, e5]
    refine is_of (by rw [hc]; decide) (reg_zero _) (by rw [p2]; exact reg_ok (by omega) (by omega)) (by rw [p3]; exact reg_ok (by omega) (by omega)) (csr_zero _) ?_
    rw [imm_num p5, hn0]
    clear sm
    simp only [withinB, Int.tmod_one, Bool.and_eq_true, decide_eq_true_eq, beq_self_eq_true, and_true]
    omega
  have he : gEnc op v = opcI op + f3I op * 4096 + v / 32768 % 32 * 32768 + v / 1048576 % 32 * 1048576 + v / 33554432 * 33554432 + v / 128 % 32 * 128 := by
    unfold gEnc
    rw [e1, e2, e3, e4, e5, he0]
    have tt := S_parts (n := (sgn (v / 33554432 * 32 + v / 128 % 32) 2048) % 4294967296) (v / 128 % 32) (v / 33554432) (by omega) (by omega) (by omega) (by omega) sm
    obtain ⟨t0, t1⟩ := tt
    rw [t0, t1]
  unfold hitB skipB
  rw [hi, he, hfx]
  have h3 : decide (3 < op) = true := decide_eq_true (by omega)
  rw [h3]
  clear hi he e1 e2 e3 e4 e5 p1 p2 p3 p4 p5 sm s0 s1
  have b0 : 0 ≤ v % 128 ∧ v % 128 < 128 := by omega
  have k0 : v = v % 128 + 128 * (v / 128) := by omega
  have b1 : 0 ≤ v / 128 % 32 ∧ v / 128 % 32 < 32 := by omega
  have k1 : v / 128 = v / 128 % 32 + 32 * (v / 4096) := by omega
  have b2 : 0 ≤ v / 4096 % 8 ∧ v / 4096 % 8 < 8 := by omega
  have k2 : v / 4096 = v / 4096 % 8 + 8 * (v / 32768) := by omega
  have b3 : 0 ≤ v / 32768 % 32 ∧ v / 32768 % 32 < 32 := by omega
  have k3 : v / 32768 = v / 32768 % 32 + 32 * (v / 1048576) := by omega
  have b4 : 0 ≤ v / 1048576 % 32 ∧ v / 1048576 % 32 < 32 := by omega
  have k4 : v / 1048576 = v / 1048576 % 32 + 32 * (v / 33554432) := by omega
  have b5 : 0 ≤ v / 33554432 ∧ v / 33554432 < 128 := by omega
  generalize v / 1048576 % 32 = y4 at *
  generalize v / 32768 % 32 = y3 at *
  generalize v / 4096 % 8 = y2 at *
  generalize v / 128 % 32 = y1 at *
  generalize v % 128 = y0 at *
  generalize v / 33554432 = y5 at *
  generalize v / 1048576 = z4 at *
  generalize v / 32768 = z3 at *
  generalize v / 4096 = z2 at *
  generalize v / 128 = z1 at *
  apply Bool.eq_iff_iff.2
  simp
  omega
set_option maxHeartbeats 1000000 in
theorem hit_I (op v : Int) (h0 : 22 ≤ op) (h1 : op ≤ 27) (hv0 : 0 ≤ v) (hv1 : v < 4294967296) : hitB op v = ((v % 128 == opcI op) && (v / 4096 % 8 == f3I op)) := by
  have hc : clsI op = 5 := (cls_5 (by omega) (by omega)).symm
  have hfx : fixI op = 0 := fix_none (by omega)
  obtain ⟨o0, o1, o2, o3, o4, o5⟩ := codes_bd op
  have p1 : hasRd op = true := decide_eq_true (by omega)
  have p2 : hasRs1 op = true := decide_eq_true (by omega)
  have p3 : hasRs2 op = false := decide_eq_false (by omega)
  have p4 : hasCsr op = false := decide_eq_false (by omega)
  have p5 : hasNum op = true := decide_eq_true (by omega)
  have e1 : gRdI op v = v / 128 % 32 := by unfold gRdI; rw [p1]; rfl
  have e2 : gRs1I op v = v / 32768 % 32 := by unfold gRs1I; rw [p2]; rfl
  have e3 : gRs2I op v = 0 := by unfold gRs2I; rw [p3]; rfl
  have e4 : gCsrI op v = 0 := by unfold gCsrI; rw [p4]; rfl
  have e5 : gImmI op v = sgn (v / 1048576) 2048 := by
    unfold gImmI
    rw [hc]
    repeat rw [if_neg (by omega)]
    rw [if_pos (by omega)]
    rfl
  obtain ⟨s0, s1⟩ := sgn_bd (x := v / 1048576) (h := 2048) (by omega) (by omega)
  have sm : (sgn (v / 1048576) 2048) % 4294967296 % 4096 = v / 1048576 := sgn_mod (x := v / 1048576) (h := 2048) (by omega) (by omega) 1048576 rfl
  have hi : gIs op v = true := by
    unfold gIs
    rw [e1, e2, e3, e4, e5]
    refine is_of (by rw [hc]; decide) (by rw [p1]; exact reg_ok (by omega) (by omega)) (by rw [p2]; exact reg_ok (by omega) (by omega)) (reg_zero _) (csr_zero _) ?_
    rw [imm_num p5, numB, hc]
    repeat rw [if_neg (by omega)]
    simp only [withinB, Int.tmod_one, Bool.and_eq_true, decide_eq_true_eq, beq_self_eq_true, and_true]
    omega
  have he : gEnc op v = opcI op + f3I op * 4096 + v / 32768 % 32 * 32768 + v / 128 % 32 * 128 + v / 1048576 * 1048576 := by
    unfold gEnc encI
    rw [e1, e2, e3, e4, e5, hc]
    repeat rw [if_neg (by omega)]
    generalize (sgn (v / 1048576) 2048) % 4294967296 = n at sm ⊢
    omega
  unfold hitB skipB
  rw [hi, he, hfx]
  have h3 : decide (3 < op) = true := decide_eq_true (by omega)
  rw [h3]
  clear hi he e1 e2 e3 e4 e5 p1 p2 p3 p4 p5 sm s0 s1
  have b0 : 0 ≤ v % 128 ∧ v % 128 < 128 := by omega
  have k0 : v = v % 128 + 128 * (v / 128) := by omega
  have b1 : 0 ≤ v / 128 % 32 ∧ v / 128 % 32 < 32 := by omega
  have k1 : v / 128 = v / 128 % 32 + 32 * (v / 4096) := by omega
  have b2 : 0 ≤ v / 4096 % 8 ∧ v / 4096 % 8 < 8 := by omega
  have k2 : v / 4096 = v / 4096 % 8 + 8 * (v / 32768) := by omega
  have b3 : 0 ≤ v / 32768 % 32 ∧ v / 32768 % 32 < 32 := by omega
  have k3 : v / 32768 = v / 32768 % 32 + 32 * (v / 1048576) := by omega
  have b4 : 0 ≤ v / 1048576 ∧ v / 1048576 < 4096 := by omega
  generalize v / 32768 % 32 = y3 at *
  generalize v / 4096 % 8 = y2 at *
  generalize v / 128 % 32 = y1 at *
  generalize v % 128 = y0 at *
  generalize v / 1048576 = y4 at *
  generalize v / 32768 = z3 at *
  generalize v / 4096 = z2 at *
  generalize v / 128 = z1 at *
  apply Bool.eq_iff_iff.2
  simp
  omega
set_option maxHeartbeats 1000000 in
theorem hit_H (op v : Int) (h0 : 28 ≤ op) (h1 : op ≤ 30) (hv0 : 0 ≤ v) (hv1 : v < 4294967296) : hitB op v = ((v % 128 == opcI op) && (v / 4096 % 8 == f3I op) && (v / 67108864 == f7I op / 2)) := by
  have hc : clsI op = 5 := (cls_5 (by omega) (by omega)).symm
  have hfx : fixI op = 0 := fix_none (by omega)
  obtain ⟨o0, o1, o2, o3, o4, o5⟩ := codes_bd op
  have p1 : hasRd op = true := decide_eq_true (by omega)
  have p2 : hasRs1 op = true := decide_eq_true (by omega)
  have p3 : hasRs2 op = false := decide_eq_false (by omega)
  have p4 : hasCsr op = false := decide_eq_false (by omega)
  have p5 : hasNum op = true := decide_eq_true (by omega)
  have e1 : gRdI op v = v / 128 % 32 := by unfold gRdI; rw [p1]; rfl
  have e2 : gRs1I op v = v / 32768 % 32 := by unfold gRs1I; rw [p2]; rfl
  have e3 : gRs2I op v = 0 := by unfold gRs2I; rw [p3]; rfl
  have e4 : gCsrI op v = 0 := by unfold gCsrI; rw [p4]; rfl
  have e5 : gImmI op v = v / 1048576 % 64 := by
    unfold gImmI
    rw [hc]
    repeat rw [if_neg (by omega)]
    rw [if_pos (by omega)]
    rfl
  have hi : gIs op v = true := by
    unfold gIs
    rw [e1, e2, e3, e4, e5]
    refine is_of (by rw [hc]; decide) (by rw [p1]; exact reg_ok (by omega) (by omega)) (by rw [p2]; exact reg_ok (by omega) (by omega)) (reg_zero _) (csr_zero _) ?_
    rw [imm_num p5, numB, hc]
    repeat rw [if_neg (by omega)]
    rw [if_pos (by omega)]
    simp only [withinB, Int.tmod_one, Bool.and_eq_true, decide_eq_true_eq, beq_self_eq_true, and_true]
    omega
  have he : gEnc op v = opcI op + f3I op * 4096 + v / 32768 % 32 * 32768 + v / 128 % 32 * 128 + v / 1048576 % 64 * 1048576 + f7I op * 33554432 := by
    unfold gEnc encI
    rw [e1, e2, e3, e4, e5, hc]
    repeat rw [if_neg (by omega)]
    rw [if_pos (by omega)]
    omega
  unfold hitB skipB
  rw [hi, he, hfx]
  have h3 : decide (3 < op) = true := decide_eq_true (by omega)
  rw [h3]
  have hev : f7I op % 2 = 0 := codes_even (by omega)
  clear hi he e1 e2 e3 e4 e5 p1 p2 p3 p4 p5
  have b0 : 0 ≤ v % 128 ∧ v % 128 < 128 := by omega
  have k0 : v = v % 128 + 128 * (v / 128) := by omega
  have b1 : 0 ≤ v / 128 % 32 ∧ v / 128 % 32 < 32 := by omega
  have k1 : v / 128 = v / 128 % 32 + 32 * (v / 4096) := by omega
  have b2 : 0 ≤ v / 4096 % 8 ∧ v / 4096 % 8 < 8 := by omega
  have k2 : v / 4096 = v / 4096 % 8 + 8 * (v / 32768) := by omega
  have b3 : 0 ≤ v / 32768 % 32 ∧ v / 32768 % 32 < 32 := by omega
  have k3 : v / 32768 = v / 32768 % 32 + 32 * (v / 1048576) := by omega
  have b4 : 0 ≤ v / 1048576 % 64 ∧ v / 1048576 % 64 < 64 := by omega
  have k4 : v / 1048576 = v / 1048576 % 64 + 64 * (v / 67108864) := by omega
  have b5 : 0 ≤ v / 67108864 ∧ v / 67108864 < 64 := by omega
  generalize v / 1048576 % 64 = y4 at *
  generalize v / 32768 % 32 = y3 at *
  generalize v / 4096 % 8 = y2 at *
  generalize v / 128 % 32 = y1 at *
  generalize v % 128 = y0 at *
  generalize v / 67108864 = y5 at *
  generalize v / 1048576 = z4 at *
  generalize v / 32768 = z3 at *
  generalize v / 4096 = z2 at *
  generalize v / 128 = z1 at *
  apply Bool.eq_iff_iff.2
  simp
  omega
set_option maxHeartbeats 1000000 in
theorem hit_Iw (op v : Int) (h0 : 31 ≤ op) (h1 : op ≤ 31) (hv0 : 0 ≤ v) (hv1 : v < 4294967296) : hitB op v = ((v % 128 == opcI op) && (v / 4096 % 8 == f3I op)) := by
  have hc : clsI op = 5 := (cls_5 (by omega) (by omega)).symm
  have hfx : fixI op = 0 := fix_none (by omega)
  obtain ⟨o0, o1, o2, o3, o4, o5⟩ := codes_bd op
  have p1 : hasRd op = true := decide_eq_true (by omega)
  have p2 : hasRs1 op = true := decide_eq_true (by omega)
  have p3 : hasRs2 op = false := decide_eq_false (by omega)
  have p4 : hasCsr op = false := decide_eq_false (by omega)
  have p5 : hasNum op = true := decide_eq_true (by omega)
  have e1 : gRdI op v = v / 128 % 32 := by unfold gRdI; rw [p1]; rfl
  have e2 : gRs1I op v = v / 32768 % 32 := by unfold gRs1I; rw [p2]; rfl
  have e3 : gRs2I op v = 0 := by unfold gRs2I; rw [p3]; rfl
  have e4 : gCsrI op v = 0 := by unfold gCsrI; rw [p4]; rfl
  have e5 : gImmI op v = sgn (v / 1048576) 2048 := by
    unfold gImmI
    rw [hc]
    repeat rw [if_neg (by omega)]
    rw [if_pos (by omega)]
    rfl
  obtain ⟨s0, s1⟩ := sgn_bd (x := v / 1048576) (h := 2048) (by omega) (by omega)
  have sm : (sgn (v / 1048576) 2048) % 4294967296 % 4096 = v / 1048576 := sgn_mod (x := v / 1048576) (h := 2048) (by omega) (by omega) 1048576 rfl
  have hi : gIs op v = true := by
    unfold gIs
    rw [e1, e2, e3, e4, e5]
    refine is_of (by rw [hc]; decide) (by rw [p1]; exact reg_ok (by omega) (by omega)) (by rw [p2]; exact reg_ok (by omega) (by omega)) (reg_zero _) (csr_zero _) ?_
    rw [imm_num p5, numB, hc]
    repeat rw [if_neg (by omega)]
    simp only [withinB, Int.tmod_one, Bool.and_eq_true, decide_eq_true_eq, beq_self_eq_true, and_true]
    omega
  have he : gEnc op v = opcI op + f3I op * 4096 + v / 32768 % 32 * 32768 + v / 128 % 32 * 128 + v / 1048576 * 1048576 := by
    unfold gEnc encI
    rw [e1, e2, e3, e4, e5, hc]
    repeat rw [if_neg (by omega)]
    generalize (sgn (v / 1048576) 2048) % 4294967296 = n at sm ⊢
    omega
  unfold hitB skipB
  rw [hi, he, hfx]
  have h3 : decide (3 < op) = true := decide_eq_true (by omega)
  rw [h3]
  clear hi he e1 e2 e3 e4 e5 p1 p2 p3 p4 p5 sm s0 s1
  have b0 : 0 ≤ v % 128 ∧ v % 128 < 128 := by omega
  have k0 : v = v % 128 + 128 * (v / 128) := by omega
  have b1 : 0 ≤ v / 128 % 32 ∧ v / 128 % 32 < 32 := by omega
  have k1 : v / 128 = v / 128 % 32 + 32 * (v / 4096) := by omega
  have b2 : 0 ≤ v / 4096 % 8 ∧ v / 4096 % 8 < 8 := by omega
  have k2 : v / 4096 = v / 4096 % 8 + 8 * (v / 32768) := by omega
  have b3 : 0 ≤ v / 32768 % 32 ∧ v / 32768 % 32 < 32 := by omega
  have k3 : v / 32768 = v / 32768 % 32 + 32 * (v / 1048576) := by omega
  have b4 : 0 ≤ v / 1048576 ∧ v / 1048576 < 4096 := by omega
  generalize v / 32768 % 32 = y3 at *
  generalize v / 4096 % 8 = y2 at *
  generalize v / 128 % 32 = y1 at *
  generalize v % 128 = y0 at *
  generalize v / 1048576 = y4 at *
  generalize v / 32768 = z3 at *
  generalize v / 4096 = z2 at *
  generalize v / 128 = z1 at *
  apply Bool.eq_iff_iff.2
  simp
  omega
end Go.Proofs.YtbcmklojfmenjaaDoor
