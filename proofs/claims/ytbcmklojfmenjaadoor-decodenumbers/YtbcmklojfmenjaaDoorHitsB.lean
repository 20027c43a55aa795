/-
  Which words an operation has, as the document's words tell it: the operation's codes, and noughts where it has no field.
-/
import Derived.Test.YtbcmklojfmenjaaDoorHitsA
namespace Go.Proofs.YtbcmklojfmenjaaDoor
open Go.RowKit
set_option maxHeartbeats 1000000 in
theorem hit_U (op v : Int) (h0 : 1 ≤ op) (h1 : op ≤ 2) (hv0 : 0 ≤ v) (hv1 : v < 4294967296) : hitB op v = (v % 128 == opcI op) := by
  have hc : clsI op = 1 := (cls_1 (by omega) (by omega)).symm
  have hfx : fixI op = 0 := fix_none (by omega)
  obtain ⟨o0, o1, o2, o3, o4, o5⟩ := codes_bd op
  have p1 : hasRd op = true := decide_eq_true (by omega)
  have p2 : hasRs1 op = false := decide_eq_false (by omega)
  have p3 : hasRs2 op = false := decide_eq_false (by omega)
  have p4 : hasCsr op = false := decide_eq_false (by omega)
  have p5 : hasNum op = true := decide_eq_true (by omega)
  have e1 : gRdI op v = v / 128 % 32 := by unfold gRdI; rw [p1]; rfl
  have e2 : gRs1I op v = 0 := by unfold gRs1I; rw [p2]; rfl
  have e3 : gRs2I op v = 0 := by unfold gRs2I; rw [p3]; rfl
  have e4 : gCsrI op v = 0 := by unfold gCsrI; rw [p4]; rfl
  have e5 : gImmI op v = sgn (v / 4096 * 4096) 2147483648 := by
    unfold gImmI
    rw [hc]
    repeat rw [if_neg (by omega)]
    rw [if_pos (by omega)]
    rfl
  obtain ⟨s0, s1⟩ := sgn_bd (x := v / 4096 * 4096) (h := 2147483648) (by omega) (by omega)
  have sm : (sgn (v / 4096 * 4096) 2147483648) % 4294967296 % 4294967296 = v / 4096 * 4096 := sgn_mod (x := v / 4096 * 4096) (h := 2147483648) (by omega) (by omega) 1 rfl
  have sd : (sgn (v / 4096 * 4096) 2147483648) % 4096 = 0 := sgn_dvd (by omega) (by omega)
  have hi : gIs op v = true := by
    unfold gIs
    rw [e1, e2, e3, e4, e5]
    refine is_of (by rw [hc]; decide) (by rw [p1]; exact reg_ok (by omega) (by omega)) (reg_zero _) (reg_zero _) (csr_zero _) ?_
    rw [imm_num p5, numB, hc]
    repeat rw [if_neg (by omega)]
    rw [if_pos (by omega)]
    simp only [withinB, tmod_zero sd, Bool.and_eq_true, decide_eq_true_eq, beq_self_eq_true, and_true]
    omega
  have he : gEnc op v = opcI op + v / 128 % 32 * 128 + v / 4096 * 4096 := by
    unfold gEnc encI
    rw [e1, e2, e3, e4, e5, hc]
    repeat rw [if_neg (by omega)]
    rw [if_pos (by omega)]
    have tt := U_parts (n := (sgn (v / 4096 * 4096) 2147483648) % 4294967296) (v / 4096) (by omega) (by omega) (by omega) (by omega) sm
    rw [tt]
  unfold hitB skipB
  rw [hi, he, hfx]
  have h3 : decide (3 < op) = false := decide_eq_false (by omega)
  rw [h3]
  clear hi he e1 e2 e3 e4 e5 p1 p2 p3 p4 p5 sm s0 s1 sd
  have b0 : 0 ≤ v % 128 ∧ v % 128 < 128 := by omega
  have k0 : v = v % 128 + 128 * (v / 128) := by omega
  have b1 : 0 ≤ v / 128 % 32 ∧ v / 128 % 32 < 32 := by omega
  have k1 : v / 128 = v / 128 % 32 + 32 * (v / 4096) := by omega
  have b2 : 0 ≤ v / 4096 ∧ v / 4096 < 1048576 := by omega
  generalize v / 128 % 32 = y1 at *
  generalize v % 128 = y0 at *
  generalize v / 4096 = y2 at *
  generalize v / 128 = z1 at *
  apply Bool.eq_iff_iff.2
  simp
  omega
set_option maxHeartbeats 1000000 in
theorem hit_J (op v : Int) (h0 : 3 ≤ op) (h1 : op ≤ 3) (hv0 : 0 ≤ v) (hv1 : v < 4294967296) : hitB op v = (v % 128 == opcI op) := by
  have hc : clsI op = 1 := (cls_1 (by omega) (by omega)).symm
  have hfx : fixI op = 0 := fix_none (by omega)
  obtain ⟨o0, o1, o2, o3, o4, o5⟩ := codes_bd op
  have p1 : hasRd op = true := decide_eq_true (by omega)
  have p2 : hasRs1 op = false := decide_eq_false (by omega)
  have p3 : hasRs2 op = false := decide_eq_false (by omega)
  have p4 : hasCsr op = false := decide_eq_false (by omega)
  have p5 : hasNum op = true := decide_eq_true (by omega)
  have e1 : gRdI op v = v / 128 % 32 := by unfold gRdI; rw [p1]; rfl
  have e2 : gRs1I op v = 0 := by unfold gRs1I; rw [p2]; rfl
  have e3 : gRs2I op v = 0 := by unfold gRs2I; rw [p3]; rfl
  have e4 : gCsrI op v = 0 := by unfold gCsrI; rw [p4]; rfl
  have e5 : gImmI op v = sgn (v / 2147483648 * 1048576 + v / 4096 % 256 * 4096 + v / 1048576 % 2 * 2048 + v / 2097152 % 1024 * 2) 1048576 := by
    unfold gImmI
    rw [hc]
    repeat rw [if_neg (by omega)]
    rw [if_pos (by omega)]
    rfl
  obtain ⟨s0, s1⟩ := sgn_bd (x := v / 2147483648 * 1048576 + v / 4096 % 256 * 4096 + v / 1048576 % 2 * 2048 + v / 2097152 % 1024 * 2) (h := 1048576) (by omega) (by omega)
  have sm : (sgn (v / 2147483648 * 1048576 + v / 4096 % 256 * 4096 + v / 1048576 % 2 * 2048 + v / 2097152 % 1024 * 2) 1048576) % 4294967296 % 2097152 = v / 2147483648 * 1048576 + v / 4096 % 256 * 4096 + v / 1048576 % 2 * 2048 + v / 2097152 % 1024 * 2 := sgn_mod (x := v / 2147483648 * 1048576 + v / 4096 % 256 * 4096 + v / 1048576 % 2 * 2048 + v / 2097152 % 1024 * 2) (h := 1048576) (by omega) (by omega) 2048 rfl
  have sd : (sgn (v / 2147483648 * 1048576 + v / 4096 % 256 * 4096 + v / 1048576 % 2 * 2048 + v / 2097152 % 1024 * 2) 1048576) % 2 = 0 := sgn_dvd (by omega) (by omega)
  have hi : gIs op v = true := by
    unfold gIs
    rw [e1, e2, e3, e4, e5]
    refine is_of (by rw [hc]; decide) (by rw [p1]; exact reg_ok (by omega) (by omega)) (reg_zero _) (reg_zero _) (csr_zero _) ?_
    rw [imm_num p5, numB, hc]
    repeat rw [if_neg (by omega)]
    rw [if_pos (by omega)]
    simp only [withinB, tmod_zero sd, Bool.and_eq_true, decide_eq_true_eq, beq_self_eq_true, and_true]
    omega
  have he : gEnc op v = opcI op + v / 128 % 32 * 128 + v / 2147483648 * 2147483648 + v / 4096 % 256 * 4096 + v / 1048576 % 2 * 1048576 + v / 2097152 % 1024 * 2097152 := by
    unfold gEnc encI
    rw [e1, e2, e3, e4, e5, hc]
    repeat rw [if_neg (by omega)]
    rw [if_pos (by omega)]
    have tt := J_parts (n := (sgn (v / 2147483648 * 1048576 + v / 4096 % 256 * 4096 + v / 1048576 % 2 * 2048 + v / 2097152 % 1024 * 2) 1048576) % 4294967296) (v / 4096 % 256) (v / 1048576 % 2) (v / 2097152 % 1024) (v / 2147483648) (by omega) (by omega) (by omega) (by omega) (by omega) (by omega) (by omega) (by omega) sm
    obtain ⟨t0, t1, t2, t3⟩ := tt
    rw [t0, t1, t2, t3]
  unfold hitB skipB
  rw [hi, he, hfx]
  have h3 : decide (3 < op) = false := decide_eq_false (by omega)
  rw [h3]
  clear hi he e1 e2 e3 e4 e5 p1 p2 p3 p4 p5 sm s0 s1 sd
  have b0 : 0 ≤ v % 128 ∧ v % 128 < 128 := by omega
  have k0 : v = v % 128 + 128 * (v / 128) := by omega
  have b1 : 0 ≤ v / 128 % 32 ∧ v / 128 % 32 < 32 := by omega
  have k1 : v / 128 = v / 128 % 32 + 32 * (v / 4096) := by omega
  have b2 : 0 ≤ v / 4096 % 256 ∧ v / 4096 % 256 < 256 := by omega
  have k2 : v / 4096 = v / 4096 % 256 + 256 * (v / 1048576) := by omega
  have b3 : 0 ≤ v / 1048576 % 2 ∧ v / 1048576 % 2 < 2 := by omega
  have k3 : v / 1048576 = v / 1048576 % 2 + 2 * (v / 2097152) := by omega
  have b4 : 0 ≤ v / 2097152 % 1024 ∧ v / 2097152 % 1024 < 1024 := by omega
  have k4 : v / 2097152 = v / 2097152 % 1024 + 1024 * (v / 2147483648) := by omega
  have b5 : 0 ≤ v / 2147483648 ∧ v / 2147483648 < 2 := by omega
  generalize v / 2097152 % 1024 = y4 at *
  generalize v / 1048576 % 2 = y3 at *
  generalize v / 4096 % 256 = y2 at *
  generalize v / 128 % 32 = y1 at *
  generalize v % 128 = y0 at *
  generalize v / 2147483648 = y5 at *
  generalize v / 2097152 = z4 at *
  generalize v / 1048576 = z3 at *
  generalize v / 4096 = z2 at *
  generalize v / 128 = z1 at *
  apply Bool.eq_iff_iff.2
  simp
  omega
set_option maxHeartbeats 1000000 in
theorem hit_Jr (op v : Int) (h0 : 4 ≤ op) (h1 : op ≤ 4) (hv0 : 0 ≤ v) (hv1 : v < 4294967296) : hitB op v = ((v % 128 == opcI op) && (v / 4096 % 8 == f3I op)) := by
  have hc : clsI op = 1 := (cls_1 (by omega) (by omega)).symm
  have hfx : fixI op = 0 := fix_none (by omega)
  obtain ⟨o0, o1, o2, o3, o4, o5⟩ := codes_bd op
  have p1 : hasRd op = true := decide_eq_true (by omega)
  have p2 : hasRs1 op = true := decide_eq_true (by omega)
  have p3 : hasRs2 op = false := decide_eq_false (by omega)
  have p4 : hasCsr op = false := decide_eq_false (by omega)
  have p5 : hasNum op = true := decide_eq_true (by omega)
  have e1 : gRdI op v = v / 128 % 32 := by unfold gRdI; rw [p1]; rfl
  have e2 : gRs1I op v = v / 32768 % 32 := by unfold gRs1I; rw [p2]; rfl
  have e3 : gRs2I op v = 0 := by unfold gRs2I; rw [p3]; rfl
  have e4 : gCsrI op v = 0 := by unfold gCsrI; rw [p4]; rfl
  have e5 : gImmI op v = sgn (v / 1048576) 2048 := by
    unfold gImmI
    rw [hc]
    repeat rw [if_neg (by omega)]
    rw [if_pos (by omega)]
    rfl
  obtain ⟨s0, s1⟩ := sgn_bd (x := v / 1048576) (h := 2048) (by omega) (by omega)
  have sm : (sgn (v / 1048576) 2048) % 4294967296 % 4096 = v / 1048576 := sgn_mod (x := v / 1048576) (h := 2048) (by omega) (by omega) 1048576 rfl
  have hi : gIs op v = true := by
    unfold gIs
    rw [e1, e2, e3, e4, e5]
    refine is_of (by rw [hc]; decide) (by rw [p1]; exact reg_ok (by omega) (by omega)) (by rw [p2]; exact reg_ok (by omega) (by omega)) (reg_zero _) (csr_zero _) ?_
    rw [imm_num p5, numB, hc]
    repeat rw [if_neg (by omega)]
    simp only [withinB, Int.tmod_one, Bool.and_eq_true, decide_eq_true_eq, beq_self_eq_true, and_true]
    omega
  have he : gEnc op v = opcI op + f3I op * 4096 + v / 32768 % 32 * 32768 + v / 128 % 32 * 128 + v / 1048576 * 1048576 := by
    unfold gEnc encI
    rw [e1, e2, e3, e4, e5, hc]
    repeat rw [if_neg (by omega)]
    generalize (sgn (v / 1048576) 2048) % 4294967296 = n at sm ⊢
    omega
  unfold hitB skipB
  rw [hi, he, hfx]
  have h3 : decide (3 < op) = true := decide_eq_true (by omega)
  rw [h3]
  clear hi he e1 e2 e3 e4 e5 p1 p2 p3 p4 p5 sm s0 s1
  have b0 : 0 ≤ v % 128 ∧ v % 128 < 128 := by omega
  have k0 : v = v % 128 + 128 * (v / 128) := by omega
  have b1 : 0 ≤ v / 128 % 32 ∧ v / 128 % 32 < 32 := by omega
  have k1 : v / 128 = v / 128 % 32 + 32 * (v / 4096) := by omega
  have b2 : 0 ≤ v / 4096 % 8 ∧ v / 4096 % 8 < 8 := by omega
  have k2 : v / 4096 = v / 4096 % 8 + 8 * (v / 32768) := by omega
  have b3 : 0 ≤ v / 32768 % 32 ∧ v / 32768 % 32 < 32 := by omega
  have k3 : v / 32768 = v / 32768 % 32 + 32 * (v / 1048576) := by omega
  have b4 : 0 ≤ v / 1048576 ∧ v / 1048576 < 4096 := by omega
  generalize v / 32768 % 32 = y3 at *
  generalize v / 4096 % 8 = y2 at *
  generalize v / 128 % 32 = y1 at *
  generalize v % 128 = y0 at *
  generalize v / 1048576 = y4 at *
  generalize v / 32768 = z3 at *
  generalize v / 4096 = z2 at *
  generalize v / 128 = z1 at *
  apply Bool.eq_iff_iff.2
  simp
  omega
set_option maxHeartbeats 1000000 in
theorem hit_B (op v : Int) (h0 : 5 ≤ op) (h1 : op ≤ 10) (hv0 : 0 ≤ v) (hv1 : v < 4294967296) : hitB op v = ((v % 128 == opcI op) && (v / 4096 % 8 == f3I op)) := by
  have hc : clsI op = 2 := (cls_2 (by omega) (by omega)).symm
  have hfx : fixI op = 0 := fix_none (by omega)
  obtain ⟨o0, o1, o2, o3, o4, o5⟩ := codes_bd op
  have p1 : hasRd op = false := decide_eq_false (by omega)
  have p2 : hasRs1 op = true := decide_eq_true (by omega)
  have p3 : hasRs2 op = true := decide_eq_true (by omega)
  have p4 : hasCsr op = false := decide_eq_false (by omega)
  have p5 : hasNum op = true := decide_eq_true (by omega)
  have e1 : gRdI op v = 0 := by unfold gRdI; rw [p1]; rfl
  have e2 : gRs1I op v = v / 32768 % 32 := by unfold gRs1I; rw [p2]; rfl
  have e3 : gRs2I op v = v / 1048576 % 32 := by unfold gRs2I; rw [p3]; rfl
  have e4 : gCsrI op v = 0 := by unfold gCsrI; rw [p4]; rfl
  have e5 : gImmI op v = sgn (v / 2147483648 * 4096 + v / 128 % 2 * 2048 + v / 33554432 % 64 * 32 + v / 256 % 16 * 2) 4096 := by
    unfold gImmI
    rw [hc]
    repeat rw [if_neg (by omega)]
    rw [if_pos (by omega)]
    rfl
  obtain ⟨s0, s1⟩ := sgn_bd (x := v / 2147483648 * 4096 + v / 128 % 2 * 2048 + v / 33554432 % 64 * 32 + v / 256 % 16 * 2) (h := 4096) (by omega) (by omega)
  have sm : (sgn (v / 2147483648 * 4096 + v / 128 % 2 * 2048 + v / 33554432 % 64 * 32 + v / 256 % 16 * 2) 4096) % 4294967296 % 8192 = v / 2147483648 * 4096 + v / 128 % 2 * 2048 + v / 33554432 % 64 * 32 + v / 256 % 16 * 2 := sgn_mod (x := v / 2147483648 * 4096 + v / 128 % 2 * 2048 + v / 33554432 % 64 * 32 + v / 256 % 16 * 2) (h := 4096) (by omega) (by omega) 524288 rfl
  have sd : (sgn (v / 2147483648 * 4096 + v / 128 % 2 * 2048 + v / 33554432 % 64 * 32 + v / 256 % 16 * 2) 4096) % 2 = 0 := sgn_dvd (by omega) (by omega)
  have hi : gIs op v = true := by
    unfold gIs
    rw [e1, e2, e3, e4, e5]
    refine is_of (by rw [hc]; decide) (reg_zero _) (by rw [p2]; exact reg_ok (by omega) (by omega)) (by rw [p3]; exact reg_ok (by omega) (by omega)) (csr_zero _) ?_
    rw [imm_num p5, numB, hc]
    repeat rw [if_neg (by omega)]
    rw [if_pos (by omega)]
    simp only [withinB, tmod_zero sd, Bool.and_eq_true, decide_eq_true_eq, beq_self_eq_true, and_true]
    omega
  have he : gEnc op v = opcI op + f3I op * 4096 + v / 32768 % 32 * 32768 + v / 1048576 % 32 * 1048576 + v / 2147483648 * 2147483648 + v / 128 % 2 * 128 + v / 33554432 % 64 * 33554432 + v / 256 % 16 * 256 := by
    unfold gEnc encI
    rw [e1, e2, e3, e4, e5, hc]
    repeat rw [if_neg (by omega)]
    rw [if_pos (by omega)]
    have tt := B_parts (n := (sgn (v / 2147483648 * 4096 + v / 128 % 2 * 2048 + v / 33554432 % 64 * 32 + v / 256 % 16 * 2) 4096) % 4294967296) (v / 128 % 2) (v / 256 % 16) (v / 33554432 % 64) (v / 2147483648) (by omega) (by omega) (by omega) (by omega) (by omega) (by omega) (by omega) (by omega) sm
    obtain ⟨t0, t1, t2, t3⟩ := tt
    rw [t0, t1, t2, t3]
  unfold hitB skipB
  rw [hi, he, hfx]
  have h3 : decide (3 < op) = true := decide_eq_true (by omega)
  rw [h3]
  clear hi he e1 e2 e3 e4 e5 p1 p2 p3 p4 p5 sm s0 s1 sd
  have b0 : 0 ≤ v % 128 ∧ v % 128 < 128 := by omega
  have k0 : v = v % 128 + 128 * (v / 128) := by omega
  have b1 : 0 ≤ v / 128 % 2 ∧ v / 128 % 2 < 2 := by omega
  have k1 : v / 128 = v / 128 % 2 + 2 * (v / 256) := by omega
  have b2 : 0 ≤ v / 256 % 16 ∧ v / 256 % 16 < 16 := by omega
  have k2 : v / 256 = v / 256 % 16 + 16 * (v / 4096) := by omega
  have b3 : 0 ≤ v / 4096 % 8 ∧ v / 4096 % 8 < 8 := by omega
  have k3 : v / 4096 = v / 4096 % 8 + 8 * (v / 32768) := by omega
  have b4 : 0 ≤ v / 32768 % 32 ∧ v / 32768 % 32 < 32 := by omega
  have k4 : v / 32768 = v / 32768 % 32 + 32 * (v / 1048576) := by omega
  have b5 : 0 ≤ v / 1048576 % 32 ∧ v / 1048576 % 32 < 32 := by omega
  have k5 : v / 1048576 = v / 1048576 % 32 + 32 * (v / 33554432) := by omega
  have b6 : 0 ≤ v / 33554432 % 64 ∧ v / 33554432 % 64 < 64 := by omega
  have k6 : v / 33554432 = v / 33554432 % 64 + 64 * (v / 2147483648) := by omega
  have b7 : 0 ≤ v / 2147483648 ∧ v / 2147483648 < 2 := by omega
  generalize v / 33554432 % 64 = y6 at *
  generalize v / 1048576 % 32 = y5 at *
  generalize v / 32768 % 32 = y4 at *
  generalize v / 4096 % 8 = y3 at *
  generalize v / 256 % 16 = y2 at *
  generalize v / 128 % 2 = y1 at *
  generalize v % 128 = y0 at *
  generalize v / 2147483648 = y7 at *
  generalize v / 33554432 = z6 at *
  generalize v / 1048576 = z5 at *
  generalize v / 32768 = z4 at *
  generalize v / 4096 = z3 at *
  generalize v / 256 = z2 at *
  generalize v / 128 = z1 at *
  apply Bool.eq_iff_iff.2
  simp
  omega
end Go.Proofs.YtbcmklojfmenjaaDoor
