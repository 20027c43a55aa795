/-
  Which words an operation has, as the document's words tell it: the operation's codes, and noughts where it has no field.
-/
import Derived.Test.YtbcmklojfmenjaaDoorRefDec
namespace Go.Proofs.YtbcmklojfmenjaaDoor
open Go.RowKit
theorem sgn_bd {x h : Int} (h0 : 0 ≤ x) (h1 : x < 2 * h) : -h ≤ sgn x h ∧ sgn x h < h := by
  unfold sgn; split <;> omega
theorem sgn_mod {x h : Int} (h0 : 0 ≤ x) (h1 : x < 2 * h) (k : Int) (hk : 4294967296 = 2 * h * k) : sgn x h % 4294967296 % (2 * h) = x := by
  have e : sgn x h % 4294967296 % (2 * h) = sgn x h % (2 * h) := by rw [hk]; exact Int.emod_emod_of_dvd _ (Int.dvd_mul_right _ _)
  rw [e]; unfold sgn; split
  · exact Int.emod_eq_of_lt h0 h1
  · rw [show x - 2 * h = x + 2 * h * (-1) by omega, Int.add_mul_emod_self_left]; exact Int.emod_eq_of_lt h0 h1
theorem sgn_dvd {x h c : Int} (h0 : x % c = 0) (h1 : 2 * h % c = 0) : sgn x h % c = 0 := by
  have d0 := Int.dvd_of_emod_eq_zero h0
  have d1 := Int.dvd_of_emod_eq_zero h1
  apply Int.emod_eq_zero_of_dvd
  unfold sgn; split
  · exact d0
  · exact Int.dvd_sub d0 d1
theorem tmod_zero {x c : Int} (h : x % c = 0) : x.tmod c = 0 := Int.tmod_eq_zero_of_dvd (Int.dvd_of_emod_eq_zero h)
theorem reg_ok {x : Int} (h0 : 0 ≤ x) (h1 : x < 32) : regB x true = true := by
  unfold regB; by_cases h : x = 0
  · simp [h]
  · have : 0 < x := by omega
    simp [this, h1]
theorem imm_num {op imm : Int} (h : hasNum op = true) : immB op imm = numB op imm := by unfold immB; rw [h, if_pos rfl]
theorem imm_none {op : Int} (h : hasNum op = false) : immB op 0 = true := by unfold immB; rw [h]; rfl
theorem is_of {op rd rs1 rs2 imm csr : Int} (h0 : clsI op ≠ 0) (h1 : regB rd (hasRd op) = true) (h2 : regB rs1 (hasRs1 op) = true) (h3 : regB rs2 (hasRs2 op) = true) (h4 : csrB csr (hasCsr op) = true) (h5 : immB op imm = true) :
    isB op rd rs1 rs2 imm csr = true := by
  unfold isB
  rw [h1, h2, h3, h4, h5]
  simpa using h0
theorem reg_zero (b : Bool) : regB 0 b = true := by simp [regB]
theorem csr_zero (b : Bool) : csrB 0 b = true := by simp [csrB]
theorem U_parts {n : Int} (a : Int) (a0 : 0 ≤ a) (a1 : a < 1048576) (n0 : 0 ≤ n) (n1 : n < 4294967296) (h : n % 4294967296 = a * 4096) : n / 4096 = a := by omega
theorem div_of {x P d r : Int} (hP : 0 < P) (h : x = d * P + r) (h0 : 0 ≤ r) (h1 : r < P) : x / P = d := by
  rw [h, Int.add_comm, Int.add_mul_ediv_right _ _ (by omega), Int.ediv_eq_zero_of_lt h0 h1, Int.zero_add]
theorem mod_of {x P d r : Int} (h : x = d * P + r) (h0 : 0 ≤ r) (h1 : r < P) : x % P = r := by
  rw [h, Int.add_comm, Int.add_mul_emod_self_right, Int.emod_eq_of_lt h0 h1]
theorem J_parts {n : Int} (a b c d : Int) (a0 : 0 ≤ a) (a1 : a < 256) (b0 : 0 ≤ b) (b1 : b < 2) (c0 : 0 ≤ c) (c1 : c < 1024) (d0 : 0 ≤ d) (d1 : d < 2) (h : n % 2097152 = d * 1048576 + a * 4096 + b * 2048 + c * 2) :
    n / 1048576 % 2 = d ∧ n / 4096 % 256 = a ∧ n / 2048 % 2 = b ∧ n / 2 % 1024 = c := by
  have e := Int.mul_ediv_add_emod n 2097152
  rw [h] at e
  generalize n / 2097152 = k at e
  rw [div_of (x := n) (P := 1048576) (d := k * 2 + d) (r := a * 4096 + b * 2048 + c * 2) (by omega) (by omega) (by omega) (by omega),
    div_of (x := n) (P := 4096) (d := (k * 2 + d) * 256 + a) (r := b * 2048 + c * 2) (by omega) (by omega) (by omega) (by omega),
    div_of (x := n) (P := 2048) (d := (k * 512 + d * 256 + a) * 2 + b) (r := c * 2) (by omega) (by omega) (by omega) (by omega),
    div_of (x := n) (P := 2) (d := (k * 1024 + d * 512 + a * 2 + b) * 1024 + c) (r := 0) (by omega) (by omega) (by omega) (by omega)]
  exact ⟨mod_of rfl d0 d1, mod_of rfl a0 a1, mod_of rfl b0 b1, mod_of rfl c0 c1⟩
theorem B_parts {n : Int} (a b c d : Int) (a0 : 0 ≤ a) (a1 : a < 2) (b0 : 0 ≤ b) (b1 : b < 16) (c0 : 0 ≤ c) (c1 : c < 64) (d0 : 0 ≤ d) (d1 : d < 2) (h : n % 8192 = d * 4096 + a * 2048 + c * 32 + b * 2) :
    n / 4096 % 2 = d ∧ n / 2048 % 2 = a ∧ n / 32 % 64 = c ∧ n / 2 % 16 = b := by
  have e := Int.mul_ediv_add_emod n 8192
  rw [h] at e
  generalize n / 8192 = k at e
  rw [div_of (x := n) (P := 4096) (d := k * 2 + d) (r := a * 2048 + c * 32 + b * 2) (by omega) (by omega) (by omega) (by omega),
    div_of (x := n) (P := 2048) (d := (k * 2 + d) * 2 + a) (r := c * 32 + b * 2) (by omega) (by omega) (by omega) (by omega),
    div_of (x := n) (P := 32) (d := (k * 4 + d * 2 + a) * 64 + c) (r := b * 2) (by omega) (by omega) (by omega) (by omega),
    div_of (x := n) (P := 2) (d := (k * 256 + d * 128 + a * 64 + c) * 16 + b) (r := 0) (by omega) (by omega) (by omega) (by omega)]
  exact ⟨mod_of rfl d0 d1, mod_of rfl a0 a1, mod_of rfl c0 c1, mod_of rfl b0 b1⟩
theorem S_parts {n : Int} (a b : Int) (a0 : 0 ≤ a) (a1 : a < 32) (b0 : 0 ≤ b) (b1 : b < 128) (h : n % 4096 = b * 32 + a) : n / 32 % 128 = b ∧ n % 32 = a := by
  have e := Int.mul_ediv_add_emod n 4096
  rw [h] at e
  generalize n / 4096 = k at e
  rw [div_of (x := n) (P := 32) (d := k * 128 + b) (r := a) (by omega) (by omega) (by omega) (by omega)]
  exact ⟨mod_of rfl b0 b1, mod_of (d := k * 128 + b) (by omega) a0 a1⟩
theorem csr_ok {x : Int} (h0 : 0 ≤ x) (h1 : x ≤ 4095) : csrB x true = true := by
  unfold csrB; simp [h0, h1]
theorem hit_fix (op v : Int) (h0 : 50 ≤ op ∧ op ≤ 53 ∨ 60 ≤ op ∧ op ≤ 62) : hitB op v = (fixI op == v) := by
  have hfx : (fixI op == 0) = false := by
    have := op_cases (p := fun op => 50 ≤ op ∧ op ≤ 53 ∨ 60 ≤ op ∧ op ≤ 62 → (fixI op == 0) = false) (by decide +kernel) (fun op h a => by omega) op
    exact this h0
  have hc : clsI op = 7 ∨ clsI op = 8 ∨ clsI op = 10 := by
    have := op_cases (p := fun op => 50 ≤ op ∧ op ≤ 53 ∨ 60 ≤ op ∧ op ≤ 62 → clsI op = 7 ∨ clsI op = 8 ∨ clsI op = 10) (by decide +kernel) (fun op h a => by omega) op
    exact this h0
  have p1 : hasRd op = false := decide_eq_false (by omega)
  have p2 : hasRs1 op = false := decide_eq_false (by omega)
  have p3 : hasRs2 op = false := decide_eq_false (by omega)
  have p4 : hasCsr op = false := decide_eq_false (by omega)
  have p5 : hasNum op = false := decide_eq_false (by omega)
  have e1 : gRdI op v = 0 := by unfold gRdI; rw [p1]; rfl
  have e2 : gRs1I op v = 0 := by unfold gRs1I; rw [p2]; rfl
  have e3 : gRs2I op v = 0 := by unfold gRs2I; rw [p3]; rfl
  have e4 : gCsrI op v = 0 := by unfold gCsrI; rw [p4]; rfl
  have e5 : gImmI op v = 0 := by
    unfold gImmI
    repeat rw [if_neg (by omega)]
  have hi : gIs op v = true := by
    unfold gIs
    rw [e1, e2, e3, e4, e5]
    exact is_of (by omega) (reg_zero _) (reg_zero _) (reg_zero _) (csr_zero _) (imm_none p5)
  have he : gEnc op v = fixI op := by
    unfold gEnc encI
    repeat rw [if_neg (by omega)]
    rw [if_pos (by omega)]
  unfold hitB skipB
  rw [hi, he, hfx]
  simp
end Go.Proofs.YtbcmklojfmenjaaDoor
