/-
  The word of an instruction has its operation and says its numbers: it is read as it, and as no other one.
-/
import Derived.Test.YtdogjmimjjmmaaaDoorDecAny
namespace Go.Proofs.YtdogjmimjjmmaaaDoor
open Go.RowKit
structure Made (op rd rs1 rs2 imm csr v : Int) : Prop where
  b0 : 0 ≤ v
  b1 : v < 4294967296
  hit : hitB op v = true
  rd : gRdI op v = rd
  rs1 : gRs1I op v = rs1
  rs2 : gRs2I op v = rs2
  imm : gImmI op v = imm
  csr : gCsrI op v = csr
theorem reg_no {r : Int} (h : regB r false = true) : r = 0 := by simpa [regB] using h
theorem csr_no {r : Int} (h : csrB r false = true) : r = 0 := by simpa [csrB] using h
theorem imm_no {op imm : Int} (h : hasNum op = false) (hi : immB op imm = true) : imm = 0 := by
  unfold immB at hi
  rw [h] at hi
  simpa using hi
theorem within_yes {n lo hi st : Int} (h : withinB n lo hi st = true) : lo ≤ n ∧ n ≤ hi ∧ n % st = 0 := by
  unfold withinB at h
  simp only [Bool.and_eq_true, decide_eq_true_eq, beq_iff_eq] at h
  exact ⟨h.1.1, h.1.2, Int.emod_eq_zero_of_dvd (Int.dvd_of_tmod_eq_zero h.2)⟩
theorem J_join {n : Int} (h : n % 2 = 0) : n / 1048576 % 2 * 1048576 + n / 4096 % 256 * 4096 + n / 2048 % 2 * 2048 + n / 2 % 1024 * 2 = n % 2097152 := by
  have k0 : n = 2 * (n / 2) := by omega
  have k1 : n / 2 = n / 2 % 1024 + 1024 * (n / 2048) := by omega
  have k2 : n / 2048 = n / 2048 % 2 + 2 * (n / 4096) := by omega
  have k3 : n / 4096 = n / 4096 % 256 + 256 * (n / 1048576) := by omega
  have k4 : n / 1048576 = n / 1048576 % 2 + 2 * (n / 2097152) := by omega
  have k5 : n = n % 2097152 + 2097152 * (n / 2097152) := by omega
  generalize n / 2 % 1024 = a at *
  generalize n / 2048 % 2 = b at *
  generalize n / 4096 % 256 = c at *
  generalize n / 1048576 % 2 = d at *
  generalize n % 2097152 = x at *
  generalize n / 2 = q1 at *
  generalize n / 2048 = q2 at *
  generalize n / 4096 = q3 at *
  generalize n / 1048576 = q4 at *
  generalize n / 2097152 = q5 at *
  clear h
  omega
theorem B_join {n : Int} (h : n % 2 = 0) : n / 4096 % 2 * 4096 + n / 2048 % 2 * 2048 + n / 32 % 64 * 32 + n / 2 % 16 * 2 = n % 8192 := by
  have k0 : n = 2 * (n / 2) := by omega
  have k1 : n / 2 = n / 2 % 16 + 16 * (n / 32) := by omega
  have k2 : n / 32 = n / 32 % 64 + 64 * (n / 2048) := by omega
  have k3 : n / 2048 = n / 2048 % 2 + 2 * (n / 4096) := by omega
  have k4 : n / 4096 = n / 4096 % 2 + 2 * (n / 8192) := by omega
  have k5 : n = n % 8192 + 8192 * (n / 8192) := by omega
  generalize n / 2 % 16 = a at *
  generalize n / 32 % 64 = b at *
  generalize n / 2048 % 2 = c at *
  generalize n / 4096 % 2 = d at *
  generalize n % 8192 = x at *
  generalize n / 2 = q1 at *
  generalize n / 32 = q2 at *
  generalize n / 2048 = q3 at *
  generalize n / 4096 = q4 at *
  generalize n / 8192 = q5 at *
  clear h
  omega
theorem S_join (n : Int) : n / 32 % 128 * 32 + n % 32 = n % 4096 := by omega
theorem sgn_back_2048 {x : Int} (h0 : -2048 ≤ x) (h1 : x < 2048) : sgn (x % 4294967296 % 4096) 2048 = x := by
  unfold sgn
  split <;> omega
theorem sgn_back_4096 {x : Int} (h0 : -4096 ≤ x) (h1 : x < 4096) : sgn (x % 4294967296 % 8192) 4096 = x := by
  unfold sgn
  split <;> omega
theorem sgn_back_1048576 {x : Int} (h0 : -1048576 ≤ x) (h1 : x < 1048576) : sgn (x % 4294967296 % 2097152) 1048576 = x := by
  unfold sgn
  split <;> omega
theorem sgn_back_2147483648 {x : Int} (h0 : -2147483648 ≤ x) (h1 : x < 2147483648) : sgn (x % 4294967296 % 4294967296) 2147483648 = x := by
  unfold sgn
  split <;> omega
theorem lay_U {v o rd a : Int} (hv : v = o + rd * 128 + a * 4096) (b_o : 0 ≤ o ∧ o < 128) (b_rd : 0 ≤ rd ∧ rd < 32) (b_a : 0 ≤ a ∧ a < 1048576) : (0 ≤ v ∧ v < 4294967296) ∧ v % 128 = o ∧ v / 128 % 32 = rd ∧ v / 4096 = a := by
  refine ⟨⟨by omega, by omega⟩, ?_, ?_, ?_⟩
  · exact mod_of (d := rd * 1 + a * 32) (by omega) (by omega) (by omega)
  · rw [div_of (x := v) (P := 128) (d := rd * 1 + a * 32) (r := o * 1) (by omega) (by omega) (by omega) (by omega)]
    exact mod_of (d := a * 1) (by omega) (by omega) (by omega)
  · exact div_of (r := o * 1 + rd * 128) (by omega) (by omega) (by omega) (by omega)
theorem lay_J {v o rd a b c d : Int} (hv : v = o + rd * 128 + d * 2147483648 + a * 4096 + b * 1048576 + c * 2097152) (b_o : 0 ≤ o ∧ o < 128) (b_rd : 0 ≤ rd ∧ rd < 32) (b_a : 0 ≤ a ∧ a < 256) (b_b : 0 ≤ b ∧ b < 2) (b_c : 0 ≤ c ∧ c < 1024) (b_d : 0 ≤ d ∧ d < 2) : (0 ≤ v ∧ v < 4294967296) ∧ v % 128 = o ∧ v / 128 % 32 = rd ∧ v / 4096 % 256 = a ∧ v / 1048576 % 2 = b ∧ v / 2097152 % 1024 = c ∧ v / 2147483648 = d := by
  refine ⟨⟨by omega, by omega⟩, ?_, ?_, ?_, ?_, ?_, ?_⟩
  · exact mod_of (d := rd * 1 + a * 32 + b * 8192 + c * 16384 + d * 16777216) (by omega) (by omega) (by omega)
  · rw [div_of (x := v) (P := 128) (d := rd * 1 + a * 32 + b * 8192 + c * 16384 + d * 16777216) (r := o * 1) (by omega) (by omega) (by omega) (by omega)]
    exact mod_of (d := a * 1 + b * 256 + c * 512 + d * 524288) (by omega) (by omega) (by omega)
  · rw [div_of (x := v) (P := 4096) (d := a * 1 + b * 256 + c * 512 + d * 524288) (r := o * 1 + rd * 128) (by omega) (by omega) (by omega) (by omega)]
    exact mod_of (d := b * 1 + c * 2 + d * 2048) (by omega) (by omega) (by omega)
  · rw [div_of (x := v) (P := 1048576) (d := b * 1 + c * 2 + d * 2048) (r := o * 1 + rd * 128 + a * 4096) (by omega) (by omega) (by omega) (by omega)]
    exact mod_of (d := c * 1 + d * 1024) (by omega) (by omega) (by omega)
  · rw [div_of (x := v) (P := 2097152) (d := c * 1 + d * 1024) (r := o * 1 + rd * 128 + a * 4096 + b * 1048576) (by omega) (by omega) (by omega) (by omega)]
    exact mod_of (d := d * 1) (by omega) (by omega) (by omega)
  · exact div_of (r := o * 1 + rd * 128 + a * 4096 + b * 1048576 + c * 2097152) (by omega) (by omega) (by omega) (by omega)
theorem lay_B {v o f rs1 rs2 a b c d : Int} (hv : v = o + f * 4096 + rs1 * 32768 + rs2 * 1048576 + d * 2147483648 + a * 128 + c * 33554432 + b * 256) (b_o : 0 ≤ o ∧ o < 128) (b_f : 0 ≤ f ∧ f < 8) (b_rs1 : 0 ≤ rs1 ∧ rs1 < 32) (b_rs2 : 0 ≤ rs2 ∧ rs2 < 32) (b_a : 0 ≤ a ∧ a < 2) (b_b : 0 ≤ b ∧ b < 16) (b_c : 0 ≤ c ∧ c < 64) (b_d : 0 ≤ d ∧ d < 2) : (0 ≤ v ∧ v < 4294967296) ∧ v % 128 = o ∧ v / 128 % 2 = a ∧ v / 256 % 16 = b ∧ v / 4096 % 8 = f ∧ v / 32768 % 32 = rs1 ∧ v / 1048576 % 32 = rs2 ∧ v / 33554432 % 64 = c ∧ v / 2147483648 = d := by
  refine ⟨⟨by omega, by omega⟩, ?_, ?_, ?_, ?_, ?_, ?_, ?_, ?_⟩
  · exact mod_of (d := a * 1 + b * 2 + f * 32 + rs1 * 256 + rs2 * 8192 + c * 262144 + d * 16777216) (by omega) (by omega) (by omega)
  · rw [div_of (x := v) (P := 128) (d := a * 1 + b * 2 + f * 32 + rs1 * 256 + rs2 * 8192 + c * 262144 + d * 16777216) (r := o * 1) (by omega) (by omega) (by omega) (by omega)]
    exact mod_of (d := b * 1 + f * 16 + rs1 * 128 + rs2 * 4096 + c * 131072 + d * 8388608) (by omega) (by omega) (by omega)
  · rw [div_of (x := v) (P := 256) (d := b * 1 + f * 16 + rs1 * 128 + rs2 * 4096 + c * 131072 + d * 8388608) (r := o * 1 + a * 128) (by omega) (by omega) (by omega) (by omega)]
    exact mod_of (d := f * 1 + rs1 * 8 + rs2 * 256 + c * 8192 + d * 524288) (by omega) (by omega) (by omega)
  · rw [div_of (x := v) (P := 4096) (d := f * 1 + rs1 * 8 + rs2 * 256 + c * 8192 + d * 524288) (r := o * 1 + a * 128 + b * 256) (by omega) (by omega) (by omega) (by omega)]
    exact mod_of (d := rs1 * 1 + rs2 * 32 + c * 1024 + d * 65536) (by omega) (by omega) (by omega)
  · rw [div_of (x := v) (P := 32768) (d := rs1 * 1 + rs2 * 32 + c * 1024 + d * 65536) (r := o * 1 + a * 128 + b * 256 + f * 4096) (by omega) (by omega) (by omega) (by omega)]
    exact mod_of (d := rs2 * 1 + c * 32 + d * 2048) (by omega) (by omega) (by omega)
  · rw [div_of (x := v) (P := 1048576) (d := rs2 * 1 + c * 32 + d * 2048) (r := o * 1 + a * 128 + b * 256 + f * 4096 + rs1 * 32768) (by omega) (by omega) (by omega) (by omega)]
    exact mod_of (d := c * 1 + d * 64) (by omega) (by omega) (by omega)
  · rw [div_of (x := v) (P := 33554432) (d := c * 1 + d * 64) (r := o * 1 + a * 128 + b * 256 + f * 4096 + rs1 * 32768 + rs2 * 1048576) (by omega) (by omega) (by omega) (by omega)]
    exact mod_of (d := d * 1) (by omega) (by omega) (by omega)
  · exact div_of (r := o * 1 + a * 128 + b * 256 + f * 4096 + rs1 * 32768 + rs2 * 1048576 + c * 33554432) (by omega) (by omega) (by omega) (by omega)
theorem lay_S {v o f rs1 rs2 a c : Int} (hv : v = o + f * 4096 + rs1 * 32768 + rs2 * 1048576 + c * 33554432 + a * 128) (b_o : 0 ≤ o ∧ o < 128) (b_f : 0 ≤ f ∧ f < 8) (b_rs1 : 0 ≤ rs1 ∧ rs1 < 32) (b_rs2 : 0 ≤ rs2 ∧ rs2 < 32) (b_a : 0 ≤ a ∧ a < 32) (b_c : 0 ≤ c ∧ c < 128) : (0 ≤ v ∧ v < 4294967296) ∧ v % 128 = o ∧ v / 128 % 32 = a ∧ v / 4096 % 8 = f ∧ v / 32768 % 32 = rs1 ∧ v / 1048576 % 32 = rs2 ∧ v / 33554432 = c := by
  refine ⟨⟨by omega, by omega⟩, ?_, ?_, ?_, ?_, ?_, ?_⟩
  · exact mod_of (d := a * 1 + f * 32 + rs1 * 256 + rs2 * 8192 + c * 262144) (by omega) (by omega) (by omega)
  · rw [div_of (x := v) (P := 128) (d := a * 1 + f * 32 + rs1 * 256 + rs2 * 8192 + c * 262144) (r := o * 1) (by omega) (by omega) (by omega) (by omega)]
    exact mod_of (d := f * 1 + rs1 * 8 + rs2 * 256 + c * 8192) (by omega) (by omega) (by omega)
  · rw [div_of (x := v) (P := 4096) (d := f * 1 + rs1 * 8 + rs2 * 256 + c * 8192) (r := o * 1 + a * 128) (by omega) (by omega) (by omega) (by omega)]
    exact mod_of (d := rs1 * 1 + rs2 * 32 + c * 1024) (by omega) (by omega) (by omega)
  · rw [div_of (x := v) (P := 32768) (d := rs1 * 1 + rs2 * 32 + c * 1024) (r := o * 1 + a * 128 + f * 4096) (by omega) (by omega) (by omega) (by omega)]
    exact mod_of (d := rs2 * 1 + c * 32) (by omega) (by omega) (by omega)
  · rw [div_of (x := v) (P := 1048576) (d := rs2 * 1 + c * 32) (r := o * 1 + a * 128 + f * 4096 + rs1 * 32768) (by omega) (by omega) (by omega) (by omega)]
    exact mod_of (d := c * 1) (by omega) (by omega) (by omega)
  · exact div_of (r := o * 1 + a * 128 + f * 4096 + rs1 * 32768 + rs2 * 1048576) (by omega) (by omega) (by omega) (by omega)
theorem lay_I {v o f rs1 rd a : Int} (hv : v = o + f * 4096 + rs1 * 32768 + rd * 128 + a * 1048576) (b_o : 0 ≤ o ∧ o < 128) (b_f : 0 ≤ f ∧ f < 8) (b_rs1 : 0 ≤ rs1 ∧ rs1 < 32) (b_rd : 0 ≤ rd ∧ rd < 32) (b_a : 0 ≤ a ∧ a < 4096) : (0 ≤ v ∧ v < 4294967296) ∧ v % 128 = o ∧ v / 128 % 32 = rd ∧ v / 4096 % 8 = f ∧ v / 32768 % 32 = rs1 ∧ v / 1048576 = a := by
  refine ⟨⟨by omega, by omega⟩, ?_, ?_, ?_, ?_, ?_⟩
  · exact mod_of (d := rd * 1 + f * 32 + rs1 * 256 + a * 8192) (by omega) (by omega) (by omega)
  · rw [div_of (x := v) (P := 128) (d := rd * 1 + f * 32 + rs1 * 256 + a * 8192) (r := o * 1) (by omega) (by omega) (by omega) (by omega)]
    exact mod_of (d := f * 1 + rs1 * 8 + a * 256) (by omega) (by omega) (by omega)
  · rw [div_of (x := v) (P := 4096) (d := f * 1 + rs1 * 8 + a * 256) (r := o * 1 + rd * 128) (by omega) (by omega) (by omega) (by omega)]
    exact mod_of (d := rs1 * 1 + a * 32) (by omega) (by omega) (by omega)
  · rw [div_of (x := v) (P := 32768) (d := rs1 * 1 + a * 32) (r := o * 1 + rd * 128 + f * 4096) (by omega) (by omega) (by omega) (by omega)]
    exact mod_of (d := a * 1) (by omega) (by omega) (by omega)
  · exact div_of (r := o * 1 + rd * 128 + f * 4096 + rs1 * 32768) (by omega) (by omega) (by omega) (by omega)
theorem lay_H {v o f rs1 rd a g : Int} (hv : v = o + f * 4096 + rs1 * 32768 + rd * 128 + a * 1048576 + g * 33554432) (hg : g % 2 = 0) (b_o : 0 ≤ o ∧ o < 128) (b_f : 0 ≤ f ∧ f < 8) (b_rs1 : 0 ≤ rs1 ∧ rs1 < 32) (b_rd : 0 ≤ rd ∧ rd < 32) (b_a : 0 ≤ a ∧ a < 64) (b_g : 0 ≤ g ∧ g < 128) : (0 ≤ v ∧ v < 4294967296) ∧ v % 128 = o ∧ v / 128 % 32 = rd ∧ v / 4096 % 8 = f ∧ v / 32768 % 32 = rs1 ∧ v / 1048576 % 64 = a ∧ v / 67108864 = g / 2 := by
  obtain ⟨k, rfl⟩ : ∃ k, g = 2 * k := ⟨g / 2, by omega⟩
  rw [show (2 * k) / 2 = k by omega]
  refine ⟨⟨by omega, by omega⟩, ?_, ?_, ?_, ?_, ?_, ?_⟩
  · exact mod_of (d := rd * 1 + f * 32 + rs1 * 256 + a * 8192 + k * 524288) (by omega) (by omega) (by omega)
  · rw [div_of (x := v) (P := 128) (d := rd * 1 + f * 32 + rs1 * 256 + a * 8192 + k * 524288) (r := o * 1) (by omega) (by omega) (by omega) (by omega)]
    exact mod_of (d := f * 1 + rs1 * 8 + a * 256 + k * 16384) (by omega) (by omega) (by omega)
  · rw [div_of (x := v) (P := 4096) (d := f * 1 + rs1 * 8 + a * 256 + k * 16384) (r := o * 1 + rd * 128) (by omega) (by omega) (by omega) (by omega)]
    exact mod_of (d := rs1 * 1 + a * 32 + k * 2048) (by omega) (by omega) (by omega)
  · rw [div_of (x := v) (P := 32768) (d := rs1 * 1 + a * 32 + k * 2048) (r := o * 1 + rd * 128 + f * 4096) (by omega) (by omega) (by omega) (by omega)]
    exact mod_of (d := a * 1 + k * 64) (by omega) (by omega) (by omega)
  · rw [div_of (x := v) (P := 1048576) (d := a * 1 + k * 64) (r := o * 1 + rd * 128 + f * 4096 + rs1 * 32768) (by omega) (by omega) (by omega) (by omega)]
    exact mod_of (d := k * 1) (by omega) (by omega) (by omega)
  · exact div_of (r := o * 1 + rd * 128 + f * 4096 + rs1 * 32768 + a * 1048576) (by omega) (by omega) (by omega) (by omega)
theorem lay_Hw {v o f rs1 rd a g : Int} (hv : v = o + f * 4096 + rs1 * 32768 + rd * 128 + a * 1048576 + g * 33554432) (b_o : 0 ≤ o ∧ o < 128) (b_f : 0 ≤ f ∧ f < 8) (b_rs1 : 0 ≤ rs1 ∧ rs1 < 32) (b_rd : 0 ≤ rd ∧ rd < 32) (b_a : 0 ≤ a ∧ a < 32) (b_g : 0 ≤ g ∧ g < 128) : (0 ≤ v ∧ v < 4294967296) ∧ v % 128 = o ∧ v / 128 % 32 = rd ∧ v / 4096 % 8 = f ∧ v / 32768 % 32 = rs1 ∧ v / 1048576 % 32 = a ∧ v / 33554432 = g := by
  refine ⟨⟨by omega, by omega⟩, ?_, ?_, ?_, ?_, ?_, ?_⟩
  · exact mod_of (d := rd * 1 + f * 32 + rs1 * 256 + a * 8192 + g * 262144) (by omega) (by omega) (by omega)
  · rw [div_of (x := v) (P := 128) (d := rd * 1 + f * 32 + rs1 * 256 + a * 8192 + g * 262144) (r := o * 1) (by omega) (by omega) (by omega) (by omega)]
    exact mod_of (d := f * 1 + rs1 * 8 + a * 256 + g * 8192) (by omega) (by omega) (by omega)
  · rw [div_of (x := v) (P := 4096) (d := f * 1 + rs1 * 8 + a * 256 + g * 8192) (r := o * 1 + rd * 128) (by omega) (by omega) (by omega) (by omega)]
    exact mod_of (d := rs1 * 1 + a * 32 + g * 1024) (by omega) (by omega) (by omega)
  · rw [div_of (x := v) (P := 32768) (d := rs1 * 1 + a * 32 + g * 1024) (r := o * 1 + rd * 128 + f * 4096) (by omega) (by omega) (by omega) (by omega)]
    exact mod_of (d := a * 1 + g * 32) (by omega) (by omega) (by omega)
  · rw [div_of (x := v) (P := 1048576) (d := a * 1 + g * 32) (r := o * 1 + rd * 128 + f * 4096 + rs1 * 32768) (by omega) (by omega) (by omega) (by omega)]
    exact mod_of (d := g * 1) (by omega) (by omega) (by omega)
  · exact div_of (r := o * 1 + rd * 128 + f * 4096 + rs1 * 32768 + a * 1048576) (by omega) (by omega) (by omega) (by omega)
theorem lay_R {v o f rs1 rd rs2 g : Int} (hv : v = o + f * 4096 + rs1 * 32768 + rd * 128 + rs2 * 1048576 + g * 33554432) (b_o : 0 ≤ o ∧ o < 128) (b_f : 0 ≤ f ∧ f < 8) (b_rs1 : 0 ≤ rs1 ∧ rs1 < 32) (b_rd : 0 ≤ rd ∧ rd < 32) (b_rs2 : 0 ≤ rs2 ∧ rs2 < 32) (b_g : 0 ≤ g ∧ g < 128) : (0 ≤ v ∧ v < 4294967296) ∧ v % 128 = o ∧ v / 128 % 32 = rd ∧ v / 4096 % 8 = f ∧ v / 32768 % 32 = rs1 ∧ v / 1048576 % 32 = rs2 ∧ v / 33554432 = g := by
  refine ⟨⟨by omega, by omega⟩, ?_, ?_, ?_, ?_, ?_, ?_⟩
  · exact mod_of (d := rd * 1 + f * 32 + rs1 * 256 + rs2 * 8192 + g * 262144) (by omega) (by omega) (by omega)
  · rw [div_of (x := v) (P := 128) (d := rd * 1 + f * 32 + rs1 * 256 + rs2 * 8192 + g * 262144) (r := o * 1) (by omega) (by omega) (by omega) (by omega)]
    exact mod_of (d := f * 1 + rs1 * 8 + rs2 * 256 + g * 8192) (by omega) (by omega) (by omega)
  · rw [div_of (x := v) (P := 4096) (d := f * 1 + rs1 * 8 + rs2 * 256 + g * 8192) (r := o * 1 + rd * 128) (by omega) (by omega) (by omega) (by omega)]
    exact mod_of (d := rs1 * 1 + rs2 * 32 + g * 1024) (by omega) (by omega) (by omega)
  · rw [div_of (x := v) (P := 32768) (d := rs1 * 1 + rs2 * 32 + g * 1024) (r := o * 1 + rd * 128 + f * 4096) (by omega) (by omega) (by omega) (by omega)]
    exact mod_of (d := rs2 * 1 + g * 32) (by omega) (by omega) (by omega)
  · rw [div_of (x := v) (P := 1048576) (d := rs2 * 1 + g * 32) (r := o * 1 + rd * 128 + f * 4096 + rs1 * 32768) (by omega) (by omega) (by omega) (by omega)]
    exact mod_of (d := g * 1) (by omega) (by omega) (by omega)
  · exact div_of (r := o * 1 + rd * 128 + f * 4096 + rs1 * 32768 + rs2 * 1048576) (by omega) (by omega) (by omega) (by omega)
theorem lay_C {v o f rs1 rd csr : Int} (hv : v = o + f * 4096 + rs1 * 32768 + rd * 128 + csr * 1048576) (b_o : 0 ≤ o ∧ o < 128) (b_f : 0 ≤ f ∧ f < 8) (b_rs1 : 0 ≤ rs1 ∧ rs1 < 32) (b_rd : 0 ≤ rd ∧ rd < 32) (b_csr : 0 ≤ csr ∧ csr < 4096) : (0 ≤ v ∧ v < 4294967296) ∧ v % 128 = o ∧ v / 128 % 32 = rd ∧ v / 4096 % 8 = f ∧ v / 32768 % 32 = rs1 ∧ v / 1048576 = csr := by
  refine ⟨⟨by omega, by omega⟩, ?_, ?_, ?_, ?_, ?_⟩
  · exact mod_of (d := rd * 1 + f * 32 + rs1 * 256 + csr * 8192) (by omega) (by omega) (by omega)
  · rw [div_of (x := v) (P := 128) (d := rd * 1 + f * 32 + rs1 * 256 + csr * 8192) (r := o * 1) (by omega) (by omega) (by omega) (by omega)]
    exact mod_of (d := f * 1 + rs1 * 8 + csr * 256) (by omega) (by omega) (by omega)
  · rw [div_of (x := v) (P := 4096) (d := f * 1 + rs1 * 8 + csr * 256) (r := o * 1 + rd * 128) (by omega) (by omega) (by omega) (by omega)]
    exact mod_of (d := rs1 * 1 + csr * 32) (by omega) (by omega) (by omega)
  · rw [div_of (x := v) (P := 32768) (d := rs1 * 1 + csr * 32) (r := o * 1 + rd * 128 + f * 4096) (by omega) (by omega) (by omega) (by omega)]
    exact mod_of (d := csr * 1) (by omega) (by omega) (by omega)
  · exact div_of (r := o * 1 + rd * 128 + f * 4096 + rs1 * 32768) (by omega) (by omega) (by omega) (by omega)
theorem lay_Ci {v o f rd a csr : Int} (hv : v = o + f * 4096 + rd * 128 + a * 32768 + csr * 1048576) (b_o : 0 ≤ o ∧ o < 128) (b_f : 0 ≤ f ∧ f < 8) (b_rd : 0 ≤ rd ∧ rd < 32) (b_a : 0 ≤ a ∧ a < 32) (b_csr : 0 ≤ csr ∧ csr < 4096) : (0 ≤ v ∧ v < 4294967296) ∧ v % 128 = o ∧ v / 128 % 32 = rd ∧ v / 4096 % 8 = f ∧ v / 32768 % 32 = a ∧ v / 1048576 = csr := by
  refine ⟨⟨by omega, by omega⟩, ?_, ?_, ?_, ?_, ?_⟩
  · exact mod_of (d := rd * 1 + f * 32 + a * 256 + csr * 8192) (by omega) (by omega) (by omega)
  · rw [div_of (x := v) (P := 128) (d := rd * 1 + f * 32 + a * 256 + csr * 8192) (r := o * 1) (by omega) (by omega) (by omega) (by omega)]
    exact mod_of (d := f * 1 + a * 8 + csr * 256) (by omega) (by omega) (by omega)
  · rw [div_of (x := v) (P := 4096) (d := f * 1 + a * 8 + csr * 256) (r := o * 1 + rd * 128) (by omega) (by omega) (by omega) (by omega)]
    exact mod_of (d := a * 1 + csr * 32) (by omega) (by omega) (by omega)
  · rw [div_of (x := v) (P := 32768) (d := a * 1 + csr * 32) (r := o * 1 + rd * 128 + f * 4096) (by omega) (by omega) (by omega) (by omega)]
    exact mod_of (d := csr * 1) (by omega) (by omega) (by omega)
  · exact div_of (r := o * 1 + rd * 128 + f * 4096 + a * 32768) (by omega) (by omega) (by omega) (by omega)
theorem lay_G {v o f rs1 rd g : Int} (hv : v = o + f * 4096 + rs1 * 32768 + rd * 128 + g * 33554432) (b_o : 0 ≤ o ∧ o < 128) (b_f : 0 ≤ f ∧ f < 8) (b_rs1 : 0 ≤ rs1 ∧ rs1 < 32) (b_rd : 0 ≤ rd ∧ rd < 32) (b_g : 0 ≤ g ∧ g < 128) : (0 ≤ v ∧ v < 4294967296) ∧ v % 128 = o ∧ v / 128 % 32 = rd ∧ v / 4096 % 8 = f ∧ v / 32768 % 32 = rs1 ∧ v / 1048576 % 32 = 0 ∧ v / 33554432 = g := by
  refine ⟨⟨by omega, by omega⟩, ?_, ?_, ?_, ?_, ?_, ?_⟩
  · exact mod_of (d := rd * 1 + f * 32 + rs1 * 256 + 0 + g * 262144) (by omega) (by omega) (by omega)
  · rw [div_of (x := v) (P := 128) (d := rd * 1 + f * 32 + rs1 * 256 + 0 + g * 262144) (r := o * 1) (by omega) (by omega) (by omega) (by omega)]
    exact mod_of (d := f * 1 + rs1 * 8 + 0 + g * 8192) (by omega) (by omega) (by omega)
  · rw [div_of (x := v) (P := 4096) (d := f * 1 + rs1 * 8 + 0 + g * 8192) (r := o * 1 + rd * 128) (by omega) (by omega) (by omega) (by omega)]
    exact mod_of (d := rs1 * 1 + 0 + g * 1024) (by omega) (by omega) (by omega)
  · rw [div_of (x := v) (P := 32768) (d := rs1 * 1 + 0 + g * 1024) (r := o * 1 + rd * 128 + f * 4096) (by omega) (by omega) (by omega) (by omega)]
    exact mod_of (d := 0 + g * 32) (by omega) (by omega) (by omega)
  · rw [div_of (x := v) (P := 1048576) (d := 0 + g * 32) (r := o * 1 + rd * 128 + f * 4096 + rs1 * 32768) (by omega) (by omega) (by omega) (by omega)]
    exact mod_of (d := g * 1) (by omega) (by omega) (by omega)
  · exact div_of (r := o * 1 + rd * 128 + f * 4096 + rs1 * 32768 + 0) (by omega) (by omega) (by omega) (by omega)
theorem lay_X {v o f rs1 rd g : Int} (hv : v = o + f * 4096 + rs1 * 32768 + rd * 128 + 3145728 + g * 33554432) (b_o : 0 ≤ o ∧ o < 128) (b_f : 0 ≤ f ∧ f < 8) (b_rs1 : 0 ≤ rs1 ∧ rs1 < 32) (b_rd : 0 ≤ rd ∧ rd < 32) (b_g : 0 ≤ g ∧ g < 128) : (0 ≤ v ∧ v < 4294967296) ∧ v % 128 = o ∧ v / 128 % 32 = rd ∧ v / 4096 % 8 = f ∧ v / 32768 % 32 = rs1 ∧ v / 1048576 % 32 = 3 ∧ v / 33554432 = g := by
  refine ⟨⟨by omega, by omega⟩, ?_, ?_, ?_, ?_, ?_, ?_⟩
  · exact mod_of (d := rd * 1 + f * 32 + rs1 * 256 + 24576 + g * 262144) (by omega) (by omega) (by omega)
  · rw [div_of (x := v) (P := 128) (d := rd * 1 + f * 32 + rs1 * 256 + 24576 + g * 262144) (r := o * 1) (by omega) (by omega) (by omega) (by omega)]
    exact mod_of (d := f * 1 + rs1 * 8 + 768 + g * 8192) (by omega) (by omega) (by omega)
  · rw [div_of (x := v) (P := 4096) (d := f * 1 + rs1 * 8 + 768 + g * 8192) (r := o * 1 + rd * 128) (by omega) (by omega) (by omega) (by omega)]
    exact mod_of (d := rs1 * 1 + 96 + g * 1024) (by omega) (by omega) (by omega)
  · rw [div_of (x := v) (P := 32768) (d := rs1 * 1 + 96 + g * 1024) (r := o * 1 + rd * 128 + f * 4096) (by omega) (by omega) (by omega) (by omega)]
    exact mod_of (d := 3 + g * 32) (by omega) (by omega) (by omega)
  · rw [div_of (x := v) (P := 1048576) (d := 3 + g * 32) (r := o * 1 + rd * 128 + f * 4096 + rs1 * 32768) (by omega) (by omega) (by omega) (by omega)]
    exact mod_of (d := g * 1) (by omega) (by omega) (by omega)
  · exact div_of (r := o * 1 + rd * 128 + f * 4096 + rs1 * 32768 + 3145728) (by omega) (by omega) (by omega) (by omega)
set_option maxHeartbeats 1000000 in
theorem made_U (op rd rs1 rs2 imm csr v : Int) (h0 : 1 ≤ op) (h1 : op ≤ 2) (h : isB op rd rs1 rs2 imm csr = true) (hv : v = encI op rd rs1 rs2 (imm % 4294967296) csr) : Made op rd rs1 rs2 imm csr v := by
  have hc : clsI op = 1 := (cls_1 (by omega) (by omega)).symm
  have p1 : hasRd op = true := decide_eq_true (by omega)
  have p2 : hasRs1 op = false := decide_eq_false (by omega)
  have p3 : hasRs2 op = false := decide_eq_false (by omega)
  have p4 : hasCsr op = false := decide_eq_false (by omega)
  have p5 : hasNum op = true := decide_eq_true (by omega)
  have hn : numB op imm = withinB imm (-2147483648) 2147479552 4096 := by
    rw [numB, hc]
    clear hv
    repeat rw [if_neg (by omega)]
    rw [if_pos (by omega)]
  have he : ∀ n, encI op rd rs1 rs2 n csr = opcI op + rd * 128 + n / 4096 * 4096 := fun n => by
    clear hv
    unfold encI
    rw [hc]
    repeat rw [if_neg (by omega)]
    rw [if_pos (by omega)]
  have hg : ∀ v, gImmI op v = gU v := fun v => by
    unfold gImmI
    rw [hc]
    repeat rw [if_neg (by omega)]
    rw [if_pos (by omega)]
  obtain ⟨o0, o1, o2, o3, o4, o5⟩ := codes_bd op
  obtain ⟨d0, d1, d2, d3, d4, d5, d6, d7⟩ := is_bounds h
  simp only [isB, Bool.and_eq_true] at h
  obtain ⟨_, i1, i2, i3, i4, i5⟩ := h
  rw [p2] at i2
  have z2 : rs1 = 0 := reg_no i2
  rw [p3] at i3
  have z3 : rs2 = 0 := reg_no i3
  rw [p4] at i4
  have z4 : csr = 0 := csr_no i4
  rw [imm_num p5, hn] at i5
  obtain ⟨m0, m1, m2⟩ := within_yes i5
  rw [he] at hv
  clear he
  have nb : 0 ≤ imm % 4294967296 / 4096 ∧ imm % 4294967296 / 4096 < 1048576 := by omega
  obtain ⟨bv, e0, e1, e2⟩ := lay_U hv ⟨o0, o1⟩ ⟨d0, d1⟩ nb
  refine ⟨bv.1, bv.2, ?_, ?_, ?_, ?_, ?_, ?_⟩
  · rw [hit_U op v h0 h1 bv.1 bv.2]
    simp only [beq_iff_eq]
    exact e0
  · unfold gRdI
    rw [p1]
    exact e1
  · unfold gRs1I
    rw [p2]
    exact z2.symm
  · unfold gRs2I
    rw [p3]
    exact z3.symm
  · rw [hg]
    unfold gU
    rw [e2]
    clear hv e0 e1 e2
    rw [show imm % 4294967296 / 4096 * 4096 = imm % 4294967296 % 4294967296 by omega]
    exact sgn_back_2147483648 (by omega) (by omega)
  · unfold gCsrI
    rw [p4]
    exact z4.symm
set_option maxHeartbeats 1000000 in
theorem made_J (op rd rs1 rs2 imm csr v : Int) (h0 : 3 ≤ op) (h1 : op ≤ 3) (h : isB op rd rs1 rs2 imm csr = true) (hv : v = encI op rd rs1 rs2 (imm % 4294967296) csr) : Made op rd rs1 rs2 imm csr v := by
  have hc : clsI op = 1 := (cls_1 (by omega) (by omega)).symm
  have p1 : hasRd op = true := decide_eq_true (by omega)
  have p2 : hasRs1 op = false := decide_eq_false (by omega)
  have p3 : hasRs2 op = false := decide_eq_false (by omega)
  have p4 : hasCsr op = false := decide_eq_false (by omega)
  have p5 : hasNum op = true := decide_eq_true (by omega)
  have hn : numB op imm = withinB imm (-1048576) 1048574 2 := by
    rw [numB, hc]
    clear hv
    repeat rw [if_neg (by omega)]
    rw [if_pos (by omega)]
  have he : ∀ n, encI op rd rs1 rs2 n csr = opcI op + rd * 128 + n / 1048576 % 2 * 2147483648 + n / 4096 % 256 * 4096 + n / 2048 % 2 * 1048576 + n / 2 % 1024 * 2097152 := fun n => by
    clear hv
    unfold encI
    rw [hc]
    repeat rw [if_neg (by omega)]
    rw [if_pos (by omega)]
  have hg : ∀ v, gImmI op v = gJ v := fun v => by
    unfold gImmI
    rw [hc]
    repeat rw [if_neg (by omega)]
    rw [if_pos (by omega)]
  obtain ⟨o0, o1, o2, o3, o4, o5⟩ := codes_bd op
  obtain ⟨d0, d1, d2, d3, d4, d5, d6, d7⟩ := is_bounds h
  simp only [isB, Bool.and_eq_true] at h
  obtain ⟨_, i1, i2, i3, i4, i5⟩ := h
  rw [p2] at i2
  have z2 : rs1 = 0 := reg_no i2
  rw [p3] at i3
  have z3 : rs2 = 0 := reg_no i3
  rw [p4] at i4
  have z4 : csr = 0 := csr_no i4
  rw [imm_num p5, hn] at i5
  obtain ⟨m0, m1, m2⟩ := within_yes i5
  rw [he] at hv
  clear he
  obtain ⟨bv, e0, e1, e2, e3, e4, e5⟩ := lay_J hv ⟨o0, o1⟩ ⟨d0, d1⟩ ⟨Int.emod_nonneg _ (by decide), Int.emod_lt_of_pos _ (by decide)⟩ ⟨Int.emod_nonneg _ (by decide), Int.emod_lt_of_pos _ (by decide)⟩ ⟨Int.emod_nonneg _ (by decide), Int.emod_lt_of_pos _ (by decide)⟩ ⟨Int.emod_nonneg _ (by decide), Int.emod_lt_of_pos _ (by decide)⟩
  refine ⟨bv.1, bv.2, ?_, ?_, ?_, ?_, ?_, ?_⟩
  · rw [hit_J op v h0 h1 bv.1 bv.2]
    simp only [beq_iff_eq]
    exact e0
  · unfold gRdI
    rw [p1]
    exact e1
  · unfold gRs1I
    rw [p2]
    exact z2.symm
  · unfold gRs2I
    rw [p3]
    exact z3.symm
  · rw [hg]
    unfold gJ
    rw [e5, e2, e3, e4]
    clear hv e0 e1 e2 e3 e4 e5
    rw [J_join (by omega)]
    exact sgn_back_1048576 (by omega) (by omega)
  · unfold gCsrI
    rw [p4]
    exact z4.symm
set_option maxHeartbeats 1000000 in
theorem made_Jr (op rd rs1 rs2 imm csr v : Int) (h0 : 4 ≤ op) (h1 : op ≤ 4) (h : isB op rd rs1 rs2 imm csr = true) (hv : v = encI op rd rs1 rs2 (imm % 4294967296) csr) : Made op rd rs1 rs2 imm csr v := by
  have hc : clsI op = 1 := (cls_1 (by omega) (by omega)).symm
  have p1 : hasRd op = true := decide_eq_true (by omega)
  have p2 : hasRs1 op = true := decide_eq_true (by omega)
  have p3 : hasRs2 op = false := decide_eq_false (by omega)
  have p4 : hasCsr op = false := decide_eq_false (by omega)
  have p5 : hasNum op = true := decide_eq_true (by omega)
  have hn : numB op imm = withinB imm (-2048) 2047 1 := by
    rw [numB, hc]
    clear hv
    repeat rw [if_neg (by omega)]
  have he : ∀ n, encI op rd rs1 rs2 n csr = opcI op + f3I op * 4096 + rs1 * 32768 + rd * 128 + n % 4096 * 1048576 := fun n => by
    clear hv
    unfold encI
    rw [hc]
    repeat rw [if_neg (by omega)]
  have hg : ∀ v, gImmI op v = gI v := fun v => by
    unfold gImmI
    rw [hc]
    repeat rw [if_neg (by omega)]
    rw [if_pos (by omega)]
  obtain ⟨o0, o1, o2, o3, o4, o5⟩ := codes_bd op
  obtain ⟨d0, d1, d2, d3, d4, d5, d6, d7⟩ := is_bounds h
  simp only [isB, Bool.and_eq_true] at h
  obtain ⟨_, i1, i2, i3, i4, i5⟩ := h
  rw [p3] at i3
  have z3 : rs2 = 0 := reg_no i3
  rw [p4] at i4
  have z4 : csr = 0 := csr_no i4
  rw [imm_num p5, hn] at i5
  obtain ⟨m0, m1, m2⟩ := within_yes i5
  rw [he] at hv
  clear he
  obtain ⟨bv, e0, e1, e2, e3, e4⟩ := lay_I hv ⟨o0, o1⟩ ⟨o2, o3⟩ ⟨d2, d3⟩ ⟨d0, d1⟩ ⟨Int.emod_nonneg _ (by decide), Int.emod_lt_of_pos _ (by decide)⟩
  refine ⟨bv.1, bv.2, ?_, ?_, ?_, ?_, ?_, ?_⟩
  · rw [hit_Jr op v h0 h1 bv.1 bv.2]
    simp only [Bool.and_eq_true, beq_iff_eq]
    exact ⟨e0, e2⟩
  · unfold gRdI
    rw [p1]
    exact e1
  · unfold gRs1I
    rw [p2]
    exact e3
  · unfold gRs2I
    rw [p3]
    exact z3.symm
  · rw [hg]
    unfold gI
    rw [e4]
    clear hv e0 e1 e2 e3 e4
    exact sgn_back_2048 (by omega) (by omega)
  · unfold gCsrI
    rw [p4]
    exact z4.symm
set_option maxHeartbeats 1000000 in
theorem made_B (op rd rs1 rs2 imm csr v : Int) (h0 : 5 ≤ op) (h1 : op ≤ 10) (h : isB op rd rs1 rs2 imm csr = true) (hv : v = encI op rd rs1 rs2 (imm % 4294967296) csr) : Made op rd rs1 rs2 imm csr v := by
  have hc : clsI op = 2 := (cls_2 (by omega) (by omega)).symm
  have p1 : hasRd op = false := decide_eq_false (by omega)
  have p2 : hasRs1 op = true := decide_eq_true (by omega)
  have p3 : hasRs2 op = true := decide_eq_true (by omega)
  have p4 : hasCsr op = false := decide_eq_false (by omega)
  have p5 : hasNum op = true := decide_eq_true (by omega)
  have hn : numB op imm = withinB imm (-4096) 4094 2 := by
    rw [numB, hc]
    clear hv
    repeat rw [if_neg (by omega)]
    rw [if_pos (by omega)]
  have he : ∀ n, encI op rd rs1 rs2 n csr = opcI op + f3I op * 4096 + rs1 * 32768 + rs2 * 1048576 + n / 4096 % 2 * 2147483648 + n / 2048 % 2 * 128 + n / 32 % 64 * 33554432 + n / 2 % 16 * 256 := fun n => by
    clear hv
    unfold encI
    rw [hc]
    repeat rw [if_neg (by omega)]
    rw [if_pos (by omega)]
  have hg : ∀ v, gImmI op v = gB v := fun v => by
    unfold gImmI
    rw [hc]
    repeat rw [if_neg (by omega)]
    rw [if_pos (by omega)]
  obtain ⟨o0, o1, o2, o3, o4, o5⟩ := codes_bd op
  obtain ⟨d0, d1, d2, d3, d4, d5, d6, d7⟩ := is_bounds h
  simp only [isB, Bool.and_eq_true] at h
  obtain ⟨_, i1, i2, i3, i4, i5⟩ := h
  rw [p1] at i1
  have z1 : rd = 0 := reg_no i1
  rw [p4] at i4
  have z4 : csr = 0 := csr_no i4
  rw [imm_num p5, hn] at i5
  obtain ⟨m0, m1, m2⟩ := within_yes i5
  rw [he] at hv
  clear he
  obtain ⟨bv, e0, e1, e2, e3, e4, e5, e6, e7⟩ := lay_B hv ⟨o0, o1⟩ ⟨o2, o3⟩ ⟨d2, d3⟩ ⟨d4, d5⟩ ⟨Int.emod_nonneg _ (by decide), Int.emod_lt_of_pos _ (by decide)⟩ ⟨Int.emod_nonneg _ (by decide), Int.emod_lt_of_pos _ (by decide)⟩ ⟨Int.emod_nonneg _ (by decide), Int.emod_lt_of_pos _ (by decide)⟩ ⟨Int.emod_nonneg _ (by decide), Int.emod_lt_of_pos _ (by decide)⟩
  refine ⟨bv.1, bv.2, ?_, ?_, ?_, ?_, ?_, ?_⟩
  · rw [hit_B op v h0 h1 bv.1 bv.2]
    simp only [Bool.and_eq_true, beq_iff_eq]
    exact ⟨e0, e3⟩
  · unfold gRdI
    rw [p1]
    exact z1.symm
  · unfold gRs1I
    rw [p2]
    exact e4
  · unfold gRs2I
    rw [p3]
    exact e5
  · rw [hg]
    unfold gB
    rw [e7, e1, e6, e2]
    clear hv e0 e1 e2 e3 e4 e5 e6 e7
    rw [B_join (by omega)]
    exact sgn_back_4096 (by omega) (by omega)
  · unfold gCsrI
    rw [p4]
    exact z4.symm
set_option maxHeartbeats 1000000 in
theorem made_L (op rd rs1 rs2 imm csr v : Int) (h0 : 11 ≤ op) (h1 : op ≤ 17) (h : isB op rd rs1 rs2 imm csr = true) (hv : v = encI op rd rs1 rs2 (imm % 4294967296) csr) : Made op rd rs1 rs2 imm csr v := by
  have hc : clsI op = 3 := (cls_3 (by omega) (by omega)).symm
  have p1 : hasRd op = true := decide_eq_true (by omega)
  have p2 : hasRs1 op = true := decide_eq_true (by omega)
  have p3 : hasRs2 op = false := decide_eq_false (by omega)
  have p4 : hasCsr op = false := decide_eq_false (by omega)
  have p5 : hasNum op = true := decide_eq_true (by omega)
  have hn : numB op imm = withinB imm (-2048) 2047 1 := by
    rw [numB, hc]
    clear hv
    repeat rw [if_neg (by omega)]
  have he : ∀ n, encI op rd rs1 rs2 n csr = opcI op + f3I op * 4096 + rs1 * 32768 + rd * 128 + n % 4096 * 1048576 := fun n => by
    clear hv
    unfold encI
    rw [hc]
    repeat rw [if_neg (by omega)]
  have hg : ∀ v, gImmI op v = gI v := fun v => by
    unfold gImmI
    rw [hc]
    repeat rw [if_neg (by omega)]
    rw [if_pos (by omega)]
  obtain ⟨o0, o1, o2, o3, o4, o5⟩ := codes_bd op
  obtain ⟨d0, d1, d2, d3, d4, d5, d6, d7⟩ := is_bounds h
  simp only [isB, Bool.and_eq_true] at h
  obtain ⟨_, i1, i2, i3, i4, i5⟩ := h
  rw [p3] at i3
  have z3 : rs2 = 0 := reg_no i3
  rw [p4] at i4
  have z4 : csr = 0 := csr_no i4
  rw [imm_num p5, hn] at i5
  obtain ⟨m0, m1, m2⟩ := within_yes i5
  rw [he] at hv
  clear he
  obtain ⟨bv, e0, e1, e2, e3, e4⟩ := lay_I hv ⟨o0, o1⟩ ⟨o2, o3⟩ ⟨d2, d3⟩ ⟨d0, d1⟩ ⟨Int.emod_nonneg _ (by decide), Int.emod_lt_of_pos _ (by decide)⟩
  refine ⟨bv.1, bv.2, ?_, ?_, ?_, ?_, ?_, ?_⟩
  · rw [hit_L op v h0 h1 bv.1 bv.2]
    simp only [Bool.and_eq_true, beq_iff_eq]
    exact ⟨e0, e2⟩
  · unfold gRdI
    rw [p1]
    exact e1
  · unfold gRs1I
    rw [p2]
    exact e3
  · unfold gRs2I
    rw [p3]
    exact z3.symm
  · rw [hg]
    unfold gI
    rw [e4]
    clear hv e0 e1 e2 e3 e4
    exact sgn_back_2048 (by omega) (by omega)
  · unfold gCsrI
    rw [p4]
    exact z4.symm
set_option maxHeartbeats 1000000 in
theorem made_S (op rd rs1 rs2 imm csr v : Int) (h0 : 18 ≤ op) (h1 : op ≤ 21) (h : isB op rd rs1 rs2 imm csr = true) (hv : v = encI op rd rs1 rs2 (imm % 4294967296) csr) : Made op rd rs1 rs2 imm csr v := by
  have hc : clsI op = 4 := (cls_4 (by omega) (by omega)).symm
  have p1 : hasRd op = false := decide_eq_false (by omega)
  have p2 : hasRs1 op = true := decide_eq_true (by omega)
  have p3 : hasRs2 op = true := decide_eq_true (by omega)
  have p4 : hasCsr op = false := decide_eq_false (by omega)
  have p5 : hasNum op = true := decide_eq_true (by omega)
  have hn : numB op imm = withinB imm (-2048) 2047 1 := by
    rw [numB, hc]
    clear hv
    repeat rw [if_neg (by omega)]
  have he : ∀ n, encI op rd rs1 rs2 n csr = opcI op + f3I op * 4096 + rs1 * 32768 + rs2 * 1048576 + n / 32 % 128 * 33554432 + n % 32 * 128 := fun n => by
    clear hv
    unfold encI
    rw [hc]
    repeat rw [if_neg (by omega)]
    rw [if_pos (by omega)]
  have hg : ∀ v, gImmI op v = gS v := fun v => by
    unfold gImmI
    rw [hc]
    repeat rw [if_neg (by omega)]
    rw [if_pos (by omega)]
  obtain ⟨o0, o1, o2, o3, o4, o5⟩ := codes_bd op
  obtain ⟨d0, d1, d2, d3, d4, d5, d6, d7⟩ := is_bounds h
  simp only [isB, Bool.and_eq_true] at h
  obtain ⟨_, i1, i2, i3, i4, i5⟩ := h
  rw [p1] at i1
  have z1 : rd = 0 := reg_no i1
  rw [p4] at i4
  have z4 : csr = 0 := csr_no i4
  rw [imm_num p5, hn] at i5
  obtain ⟨m0, m1, m2⟩ := within_yes i5
  rw [he] at hv
  clear he
  obtain ⟨bv, e0, e1, e2, e3, e4, e5⟩ := lay_S hv ⟨o0, o1⟩ ⟨o2, o3⟩ ⟨d2, d3⟩ ⟨d4, d5⟩ ⟨Int.emod_nonneg _ (by decide), Int.emod_lt_of_pos _ (by decide)⟩ ⟨Int.emod_nonneg _ (by decide), Int.emod_lt_of_pos _ (by decide)⟩
  refine ⟨bv.1, bv.2, ?_, ?_, ?_, ?_, ?_, ?_⟩
  · rw [hit_S op v h0 h1 bv.1 bv.2]
    simp only [Bool.and_eq_true, beq_iff_eq]
    exact ⟨e0, e2⟩
  · unfold gRdI
    rw [p1]
    exact z1.symm
  · unfold gRs1I
    rw [p2]
    exact e3
  · unfold gRs2I
    rw [p3]
    exact e4
  · rw [hg]
    unfold gS
    rw [e5, e1]
    clear hv e0 e1 e2 e3 e4 e5
    rw [S_join]
    exact sgn_back_2048 (by omega) (by omega)
  · unfold gCsrI
    rw [p4]
    exact z4.symm
set_option maxHeartbeats 1000000 in
theorem made_I (op rd rs1 rs2 imm csr v : Int) (h0 : 22 ≤ op) (h1 : op ≤ 27) (h : isB op rd rs1 rs2 imm csr = true) (hv : v = encI op rd rs1 rs2 (imm % 4294967296) csr) : Made op rd rs1 rs2 imm csr v := by
  have hc : clsI op = 5 := (cls_5 (by omega) (by omega)).symm
  have p1 : hasRd op = true := decide_eq_true (by omega)
  have p2 : hasRs1 op = true := decide_eq_true (by omega)
  have p3 : hasRs2 op = false := decide_eq_false (by omega)
  have p4 : hasCsr op = false := decide_eq_false (by omega)
  have p5 : hasNum op = true := decide_eq_true (by omega)
  have hn : numB op imm = withinB imm (-2048) 2047 1 := by
    rw [numB, hc]
    clear hv
    repeat rw [if_neg (by omega)]
  have he : ∀ n, encI op rd rs1 rs2 n csr = opcI op + f3I op * 4096 + rs1 * 32768 + rd * 128 + n % 4096 * 1048576 := fun n => by
    clear hv
    unfold encI
    rw [hc]
    repeat rw [if_neg (by omega)]
  have hg : ∀ v, gImmI op v = gI v := fun v => by
    unfold gImmI
    rw [hc]
    repeat rw [if_neg (by omega)]
    rw [if_pos (by omega)]
  obtain ⟨o0, o1, o2, o3, o4, o5⟩ := codes_bd op
  obtain ⟨d0, d1, d2, d3, d4, d5, d6, d7⟩ := is_bounds h
  simp only [isB, Bool.and_eq_true] at h
  obtain ⟨_, i1, i2, i3, i4, i5⟩ := h
  rw [p3] at i3
  have z3 : rs2 = 0 := reg_no i3
  rw [p4] at i4
  have z4 : csr = 0 := csr_no i4
  rw [imm_num p5, hn] at i5
  obtain ⟨m0, m1, m2⟩ := within_yes i5
  rw [he] at hv
  clear he
  obtain ⟨bv, e0, e1, e2, e3, e4⟩ := lay_I hv ⟨o0, o1⟩ ⟨o2, o3⟩ ⟨d2, d3⟩ ⟨d0, d1⟩ ⟨Int.emod_nonneg _ (by decide), Int.emod_lt_of_pos _ (by decide)⟩
  refine ⟨bv.1, bv.2, ?_, ?_, ?_, ?_, ?_, ?_⟩
  · rw [hit_I op v h0 h1 bv.1 bv.2]
    simp only [Bool.and_eq_true, beq_iff_eq]
    exact ⟨e0, e2⟩
  · unfold gRdI
    rw [p1]
    exact e1
  · unfold gRs1I
    rw [p2]
    exact e3
  · unfold gRs2I
    rw [p3]
    exact z3.symm
  · rw [hg]
    unfold gI
    rw [e4]
    clear hv e0 e1 e2 e3 e4
    exact sgn_back_2048 (by omega) (by omega)
  · unfold gCsrI
    rw [p4]
    exact z4.symm
set_option maxHeartbeats 1000000 in
theorem made_H (op rd rs1 rs2 imm csr v : Int) (h0 : 28 ≤ op) (h1 : op ≤ 30) (h : isB op rd rs1 rs2 imm csr = true) (hv : v = encI op rd rs1 rs2 (imm % 4294967296) csr) : Made op rd rs1 rs2 imm csr v := by
  have hc : clsI op = 5 := (cls_5 (by omega) (by omega)).symm
  have p1 : hasRd op = true := decide_eq_true (by omega)
  have p2 : hasRs1 op = true := decide_eq_true (by omega)
  have p3 : hasRs2 op = false := decide_eq_false (by omega)
  have p4 : hasCsr op = false := decide_eq_false (by omega)
  have p5 : hasNum op = true := decide_eq_true (by omega)
  have hn : numB op imm = withinB imm (0) 63 1 := by
    rw [numB, hc]
    clear hv
    repeat rw [if_neg (by omega)]
    rw [if_pos (by omega)]
  have he : ∀ n, encI op rd rs1 rs2 n csr = opcI op + f3I op * 4096 + rs1 * 32768 + rd * 128 + n % 64 * 1048576 + f7I op * 33554432 := fun n => by
    clear hv
    unfold encI
    rw [hc]
    repeat rw [if_neg (by omega)]
    rw [if_pos (by omega)]
  have hg : ∀ v, gImmI op v = g6 v := fun v => by
    unfold gImmI
    rw [hc]
    repeat rw [if_neg (by omega)]
    rw [if_pos (by omega)]
  have hev : f7I op % 2 = 0 := codes_even (by omega)
  obtain ⟨o0, o1, o2, o3, o4, o5⟩ := codes_bd op
  obtain ⟨d0, d1, d2, d3, d4, d5, d6, d7⟩ := is_bounds h
  simp only [isB, Bool.and_eq_true] at h
  obtain ⟨_, i1, i2, i3, i4, i5⟩ := h
  rw [p3] at i3
  have z3 : rs2 = 0 := reg_no i3
  rw [p4] at i4
  have z4 : csr = 0 := csr_no i4
  rw [imm_num p5, hn] at i5
  obtain ⟨m0, m1, m2⟩ := within_yes i5
  rw [he] at hv
  clear he
  obtain ⟨bv, e0, e1, e2, e3, e4, e5⟩ := lay_H hv hev ⟨o0, o1⟩ ⟨o2, o3⟩ ⟨d2, d3⟩ ⟨d0, d1⟩ ⟨Int.emod_nonneg _ (by decide), Int.emod_lt_of_pos _ (by decide)⟩ ⟨o4, o5⟩
  refine ⟨bv.1, bv.2, ?_, ?_, ?_, ?_, ?_, ?_⟩
  · rw [hit_H op v h0 h1 bv.1 bv.2]
    simp only [Bool.and_eq_true, beq_iff_eq]
    exact ⟨⟨e0, e2⟩, e5⟩
  · unfold gRdI
    rw [p1]
    exact e1
  · unfold gRs1I
    rw [p2]
    exact e3
  · unfold gRs2I
    rw [p3]
    exact z3.symm
  · rw [hg]
    unfold g6
    rw [e4]
    clear hv e0 e1 e2 e3 e4 e5
    omega
  · unfold gCsrI
    rw [p4]
    exact z4.symm
set_option maxHeartbeats 1000000 in
theorem made_Iw (op rd rs1 rs2 imm csr v : Int) (h0 : 31 ≤ op) (h1 : op ≤ 31) (h : isB op rd rs1 rs2 imm csr = true) (hv : v = encI op rd rs1 rs2 (imm % 4294967296) csr) : Made op rd rs1 rs2 imm csr v := by
  have hc : clsI op = 5 := (cls_5 (by omega) (by omega)).symm
  have p1 : hasRd op = true := decide_eq_true (by omega)
  have p2 : hasRs1 op = true := decide_eq_true (by omega)
  have p3 : hasRs2 op = false := decide_eq_false (by omega)
  have p4 : hasCsr op = false := decide_eq_false (by omega)
  have p5 : hasNum op = true := decide_eq_true (by omega)
  have hn : numB op imm = withinB imm (-2048) 2047 1 := by
    rw [numB, hc]
    clear hv
    repeat rw [if_neg (by omega)]
  have he : ∀ n, encI op rd rs1 rs2 n csr = opcI op + f3I op * 4096 + rs1 * 32768 + rd * 128 + n % 4096 * 1048576 := fun n => by
    clear hv
    unfold encI
    rw [hc]
    repeat rw [if_neg (by omega)]
  have hg : ∀ v, gImmI op v = gI v := fun v => by
    unfold gImmI
    rw [hc]
    repeat rw [if_neg (by omega)]
    rw [if_pos (by omega)]
  obtain ⟨o0, o1, o2, o3, o4, o5⟩ := codes_bd op
  obtain ⟨d0, d1, d2, d3, d4, d5, d6, d7⟩ := is_bounds h
  simp only [isB, Bool.and_eq_true] at h
  obtain ⟨_, i1, i2, i3, i4, i5⟩ := h
  rw [p3] at i3
  have z3 : rs2 = 0 := reg_no i3
  rw [p4] at i4
  have z4 : csr = 0 := csr_no i4
  rw [imm_num p5, hn] at i5
  obtain ⟨m0, m1, m2⟩ := within_yes i5
  rw [he] at hv
  clear he
  obtain ⟨bv, e0, e1, e2, e3, e4⟩ := lay_I hv ⟨o0, o1⟩ ⟨o2, o3⟩ ⟨d2, d3⟩ ⟨d0, d1⟩ ⟨Int.emod_nonneg _ (by decide), Int.emod_lt_of_pos _ (by decide)⟩
  refine ⟨bv.1, bv.2, ?_, ?_, ?_, ?_, ?_, ?_⟩
  · rw [hit_Iw op v h0 h1 bv.1 bv.2]
    simp only [Bool.and_eq_true, beq_iff_eq]
    exact ⟨e0, e2⟩
  · unfold gRdI
    rw [p1]
    exact e1
  · unfold gRs1I
    rw [p2]
    exact e3
  · unfold gRs2I
    rw [p3]
    exact z3.symm
  · rw [hg]
    unfold gI
    rw [e4]
    clear hv e0 e1 e2 e3 e4
    exact sgn_back_2048 (by omega) (by omega)
  · unfold gCsrI
    rw [p4]
    exact z4.symm
set_option maxHeartbeats 1000000 in
theorem made_Hw (op rd rs1 rs2 imm csr v : Int) (h0 : 32 ≤ op) (h1 : op ≤ 34) (h : isB op rd rs1 rs2 imm csr = true) (hv : v = encI op rd rs1 rs2 (imm % 4294967296) csr) : Made op rd rs1 rs2 imm csr v := by
  have hc : clsI op = 5 := (cls_5 (by omega) (by omega)).symm
  have p1 : hasRd op = true := decide_eq_true (by omega)
  have p2 : hasRs1 op = true := decide_eq_true (by omega)
  have p3 : hasRs2 op = false := decide_eq_false (by omega)
  have p4 : hasCsr op = false := decide_eq_false (by omega)
  have p5 : hasNum op = true := decide_eq_true (by omega)
  have hn : numB op imm = withinB imm (0) 31 1 := by
    rw [numB, hc]
    clear hv
    repeat rw [if_neg (by omega)]
    rw [if_pos (by omega)]
  have he : ∀ n, encI op rd rs1 rs2 n csr = opcI op + f3I op * 4096 + rs1 * 32768 + rd * 128 + n % 64 * 1048576 + f7I op * 33554432 := fun n => by
    clear hv
    unfold encI
    rw [hc]
    repeat rw [if_neg (by omega)]
    rw [if_pos (by omega)]
  have hg : ∀ v, gImmI op v = g5 v := fun v => by
    unfold gImmI
    rw [hc]
    repeat rw [if_neg (by omega)]
    rw [if_pos (by omega)]
  have hev : f7I op % 2 = 0 := codes_even (by omega)
  obtain ⟨o0, o1, o2, o3, o4, o5⟩ := codes_bd op
  obtain ⟨d0, d1, d2, d3, d4, d5, d6, d7⟩ := is_bounds h
  simp only [isB, Bool.and_eq_true] at h
  obtain ⟨_, i1, i2, i3, i4, i5⟩ := h
  rw [p3] at i3
  have z3 : rs2 = 0 := reg_no i3
  rw [p4] at i4
  have z4 : csr = 0 := csr_no i4
  rw [imm_num p5, hn] at i5
  obtain ⟨m0, m1, m2⟩ := within_yes i5
  rw [he] at hv
  clear he
  have nb : 0 ≤ imm % 4294967296 % 64 ∧ imm % 4294967296 % 64 < 32 := by omega
  obtain ⟨bv, e0, e1, e2, e3, e4, e5⟩ := lay_Hw hv ⟨o0, o1⟩ ⟨o2, o3⟩ ⟨d2, d3⟩ ⟨d0, d1⟩ nb ⟨o4, o5⟩
  refine ⟨bv.1, bv.2, ?_, ?_, ?_, ?_, ?_, ?_⟩
  · rw [hit_Hw op v h0 h1 bv.1 bv.2]
    simp only [Bool.and_eq_true, beq_iff_eq]
    exact ⟨⟨e0, e2⟩, e5⟩
  · unfold gRdI
    rw [p1]
    exact e1
  · unfold gRs1I
    rw [p2]
    exact e3
  · unfold gRs2I
    rw [p3]
    exact z3.symm
  · rw [hg]
    unfold g5
    rw [e4]
    clear hv e0 e1 e2 e3 e4 e5
    omega
  · unfold gCsrI
    rw [p4]
    exact z4.symm
set_option maxHeartbeats 1000000 in
theorem made_R (op rd rs1 rs2 imm csr v : Int) (h0 : 35 ≤ op) (h1 : op ≤ 49) (h : isB op rd rs1 rs2 imm csr = true) (hv : v = encI op rd rs1 rs2 (imm % 4294967296) csr) : Made op rd rs1 rs2 imm csr v := by
  have hc : clsI op = 6 := (cls_6 (by omega) (by omega)).symm
  have p1 : hasRd op = true := decide_eq_true (by omega)
  have p2 : hasRs1 op = true := decide_eq_true (by omega)
  have p3 : hasRs2 op = true := decide_eq_true (by omega)
  have p4 : hasCsr op = false := decide_eq_false (by omega)
  have p5 : hasNum op = false := decide_eq_false (by omega)
  have he : ∀ n, encI op rd rs1 rs2 n csr = opcI op + f3I op * 4096 + rs1 * 32768 + rd * 128 + rs2 * 1048576 + f7I op * 33554432 := fun n => by
    clear hv
    unfold encI
    rw [hc]
    repeat rw [if_neg (by omega)]
    rw [if_pos (by omega)]
  have hg : ∀ v, gImmI op v = 0 := fun v => by
    unfold gImmI
    rw [hc]
    repeat rw [if_neg (by omega)]
  obtain ⟨o0, o1, o2, o3, o4, o5⟩ := codes_bd op
  obtain ⟨d0, d1, d2, d3, d4, d5, d6, d7⟩ := is_bounds h
  simp only [isB, Bool.and_eq_true] at h
  obtain ⟨_, i1, i2, i3, i4, i5⟩ := h
  rw [p4] at i4
  have z4 : csr = 0 := csr_no i4
  have z5 : imm = 0 := imm_no p5 i5
  rw [he] at hv
  clear he
  obtain ⟨bv, e0, e1, e2, e3, e4, e5⟩ := lay_R hv ⟨o0, o1⟩ ⟨o2, o3⟩ ⟨d2, d3⟩ ⟨d0, d1⟩ ⟨d4, d5⟩ ⟨o4, o5⟩
  refine ⟨bv.1, bv.2, ?_, ?_, ?_, ?_, ?_, ?_⟩
  · rw [hit_R op v h0 h1 bv.1 bv.2]
    simp only [Bool.and_eq_true, beq_iff_eq]
    exact ⟨⟨e0, e2⟩, e5⟩
  · unfold gRdI
    rw [p1]
    exact e1
  · unfold gRs1I
    rw [p2]
    exact e3
  · unfold gRs2I
    rw [p3]
    exact e4
  · rw [hg]
    exact z5.symm
  · unfold gCsrI
    rw [p4]
    exact z4.symm
set_option maxHeartbeats 1000000 in
theorem made_C (op rd rs1 rs2 imm csr v : Int) (h0 : 54 ≤ op) (h1 : op ≤ 56) (h : isB op rd rs1 rs2 imm csr = true) (hv : v = encI op rd rs1 rs2 (imm % 4294967296) csr) : Made op rd rs1 rs2 imm csr v := by
  have hc : clsI op = 9 := (cls_9 (by omega) (by omega)).symm
  have p1 : hasRd op = true := decide_eq_true (by omega)
  have p2 : hasRs1 op = true := decide_eq_true (by omega)
  have p3 : hasRs2 op = false := decide_eq_false (by omega)
  have p4 : hasCsr op = true := decide_eq_true (by omega)
  have p5 : hasNum op = false := decide_eq_false (by omega)
  have he : ∀ n, encI op rd rs1 rs2 n csr = opcI op + f3I op * 4096 + rs1 * 32768 + rd * 128 + csr * 1048576 := fun n => by
    clear hv
    unfold encI
    rw [hc]
    repeat rw [if_neg (by omega)]
    rw [if_pos (by omega)]
  have hg : ∀ v, gImmI op v = 0 := fun v => by
    unfold gImmI
    rw [hc]
    repeat rw [if_neg (by omega)]
  obtain ⟨o0, o1, o2, o3, o4, o5⟩ := codes_bd op
  obtain ⟨d0, d1, d2, d3, d4, d5, d6, d7⟩ := is_bounds h
  simp only [isB, Bool.and_eq_true] at h
  obtain ⟨_, i1, i2, i3, i4, i5⟩ := h
  rw [p3] at i3
  have z3 : rs2 = 0 := reg_no i3
  have z5 : imm = 0 := imm_no p5 i5
  rw [he] at hv
  clear he
  obtain ⟨bv, e0, e1, e2, e3, e4⟩ := lay_C hv ⟨o0, o1⟩ ⟨o2, o3⟩ ⟨d2, d3⟩ ⟨d0, d1⟩ ⟨d6, d7⟩
  refine ⟨bv.1, bv.2, ?_, ?_, ?_, ?_, ?_, ?_⟩
  · rw [hit_C op v h0 h1 bv.1 bv.2]
    simp only [Bool.and_eq_true, beq_iff_eq]
    exact ⟨e0, e2⟩
  · unfold gRdI
    rw [p1]
    exact e1
  · unfold gRs1I
    rw [p2]
    exact e3
  · unfold gRs2I
    rw [p3]
    exact z3.symm
  · rw [hg]
    exact z5.symm
  · unfold gCsrI
    rw [p4]
    exact e4
set_option maxHeartbeats 1000000 in
theorem made_Ci (op rd rs1 rs2 imm csr v : Int) (h0 : 57 ≤ op) (h1 : op ≤ 59) (h : isB op rd rs1 rs2 imm csr = true) (hv : v = encI op rd rs1 rs2 (imm % 4294967296) csr) : Made op rd rs1 rs2 imm csr v := by
  have hc : clsI op = 9 := (cls_9 (by omega) (by omega)).symm
  have p1 : hasRd op = true := decide_eq_true (by omega)
  have p2 : hasRs1 op = false := decide_eq_false (by omega)
  have p3 : hasRs2 op = false := decide_eq_false (by omega)
  have p4 : hasCsr op = true := decide_eq_true (by omega)
  have p5 : hasNum op = true := decide_eq_true (by omega)
  have hn : numB op imm = withinB imm (0) 31 1 := by
    rw [numB, hc]
    clear hv
    repeat rw [if_neg (by omega)]
    rw [if_pos (by omega)]
  have he : ∀ n, encI op rd rs1 rs2 n csr = opcI op + f3I op * 4096 + rd * 128 + n * 32768 + csr * 1048576 := fun n => by
    clear hv
    unfold encI
    rw [hc]
    repeat rw [if_neg (by omega)]
    rw [if_pos (by omega)]
  have hg : ∀ v, gImmI op v = gZ v := fun v => by
    unfold gImmI
    rw [hc]
    repeat rw [if_neg (by omega)]
    rw [if_pos (by omega)]
  obtain ⟨o0, o1, o2, o3, o4, o5⟩ := codes_bd op
  obtain ⟨d0, d1, d2, d3, d4, d5, d6, d7⟩ := is_bounds h
  simp only [isB, Bool.and_eq_true] at h
  obtain ⟨_, i1, i2, i3, i4, i5⟩ := h
  rw [p2] at i2
  have z2 : rs1 = 0 := reg_no i2
  rw [p3] at i3
  have z3 : rs2 = 0 := reg_no i3
  rw [imm_num p5, hn] at i5
  obtain ⟨m0, m1, m2⟩ := within_yes i5
  rw [he] at hv
  clear he
  have nb : 0 ≤ imm % 4294967296 ∧ imm % 4294967296 < 32 := by omega
  obtain ⟨bv, e0, e1, e2, e3, e4⟩ := lay_Ci hv ⟨o0, o1⟩ ⟨o2, o3⟩ ⟨d0, d1⟩ nb ⟨d6, d7⟩
  refine ⟨bv.1, bv.2, ?_, ?_, ?_, ?_, ?_, ?_⟩
  · rw [hit_Ci op v h0 h1 bv.1 bv.2]
    simp only [Bool.and_eq_true, beq_iff_eq]
    exact ⟨e0, e2⟩
  · unfold gRdI
    rw [p1]
    exact e1
  · unfold gRs1I
    rw [p2]
    exact z2.symm
  · unfold gRs2I
    rw [p3]
    exact z3.symm
  · rw [hg]
    unfold gZ
    rw [e3]
    clear hv e0 e1 e2 e3 e4
    omega
  · unfold gCsrI
    rw [p4]
    exact e4
set_option maxHeartbeats 1000000 in
theorem made_V (op rd rs1 rs2 imm csr v : Int) (h0 : 63 ≤ op) (h1 : op ≤ 65) (h : isB op rd rs1 rs2 imm csr = true) (hv : v = encI op rd rs1 rs2 (imm % 4294967296) csr) : Made op rd rs1 rs2 imm csr v := by
  have hc : clsI op = 11 := (cls_11 (by omega) (by omega)).symm
  have p1 : hasRd op = false := decide_eq_false (by omega)
  have p2 : hasRs1 op = true := decide_eq_true (by omega)
  have p3 : hasRs2 op = true := decide_eq_true (by omega)
  have p4 : hasCsr op = false := decide_eq_false (by omega)
  have p5 : hasNum op = false := decide_eq_false (by omega)
  have he : ∀ n, encI op rd rs1 rs2 n csr = opcI op + f3I op * 4096 + rs1 * 32768 + rd * 128 + rs2 * 1048576 + f7I op * 33554432 := fun n => by
    clear hv
    unfold encI
    rw [hc]
    repeat rw [if_neg (by omega)]
    rw [if_pos (by omega)]
  have hg : ∀ v, gImmI op v = 0 := fun v => by
    unfold gImmI
    rw [hc]
    repeat rw [if_neg (by omega)]
  obtain ⟨o0, o1, o2, o3, o4, o5⟩ := codes_bd op
  obtain ⟨d0, d1, d2, d3, d4, d5, d6, d7⟩ := is_bounds h
  simp only [isB, Bool.and_eq_true] at h
  obtain ⟨_, i1, i2, i3, i4, i5⟩ := h
  rw [p1] at i1
  have z1 : rd = 0 := reg_no i1
  rw [p4] at i4
  have z4 : csr = 0 := csr_no i4
  have z5 : imm = 0 := imm_no p5 i5
  rw [he] at hv
  clear he
  obtain ⟨bv, e0, e1, e2, e3, e4, e5⟩ := lay_R hv ⟨o0, o1⟩ ⟨o2, o3⟩ ⟨d2, d3⟩ ⟨d0, d1⟩ ⟨d4, d5⟩ ⟨o4, o5⟩
  refine ⟨bv.1, bv.2, ?_, ?_, ?_, ?_, ?_, ?_⟩
  · rw [hit_V op v h0 h1 bv.1 bv.2]
    simp only [Bool.and_eq_true, beq_iff_eq]
    exact ⟨⟨⟨e0, e2⟩, e5⟩, e1.trans z1⟩
  · unfold gRdI
    rw [p1]
    exact z1.symm
  · unfold gRs1I
    rw [p2]
    exact e3
  · unfold gRs2I
    rw [p3]
    exact e4
  · rw [hg]
    exact z5.symm
  · unfold gCsrI
    rw [p4]
    exact z4.symm
set_option maxHeartbeats 1000000 in
theorem made_Gs (op rd rs1 rs2 imm csr v : Int) (h0 : 69 ≤ op) (h1 : op ≤ 69) (h : isB op rd rs1 rs2 imm csr = true) (hv : v = encI op rd rs1 rs2 (imm % 4294967296) csr) : Made op rd rs1 rs2 imm csr v := by
  have hc : clsI op = 12 := (cls_12 (by omega) (by omega)).symm
  have p1 : hasRd op = false := decide_eq_false (by omega)
  have p2 : hasRs1 op = true := decide_eq_true (by omega)
  have p3 : hasRs2 op = true := decide_eq_true (by omega)
  have p4 : hasCsr op = false := decide_eq_false (by omega)
  have p5 : hasNum op = false := decide_eq_false (by omega)
  have he : ∀ n, encI op rd rs1 rs2 n csr = opcI op + f3I op * 4096 + rs1 * 32768 + rd * 128 + rs2 * 1048576 + f7I op * 33554432 := fun n => by
    clear hv
    unfold encI
    rw [hc]
    repeat rw [if_neg (by omega)]
    rw [if_pos (by omega)]
  have hg : ∀ v, gImmI op v = 0 := fun v => by
    unfold gImmI
    rw [hc]
    repeat rw [if_neg (by omega)]
  obtain ⟨o0, o1, o2, o3, o4, o5⟩ := codes_bd op
  obtain ⟨d0, d1, d2, d3, d4, d5, d6, d7⟩ := is_bounds h
  simp only [isB, Bool.and_eq_true] at h
  obtain ⟨_, i1, i2, i3, i4, i5⟩ := h
  rw [p1] at i1
  have z1 : rd = 0 := reg_no i1
  rw [p4] at i4
  have z4 : csr = 0 := csr_no i4
  have z5 : imm = 0 := imm_no p5 i5
  rw [he] at hv
  clear he
  obtain ⟨bv, e0, e1, e2, e3, e4, e5⟩ := lay_R hv ⟨o0, o1⟩ ⟨o2, o3⟩ ⟨d2, d3⟩ ⟨d0, d1⟩ ⟨d4, d5⟩ ⟨o4, o5⟩
  refine ⟨bv.1, bv.2, ?_, ?_, ?_, ?_, ?_, ?_⟩
  · rw [hit_Gs op v h0 h1 bv.1 bv.2]
    simp only [Bool.and_eq_true, beq_iff_eq]
    exact ⟨⟨⟨e0, e2⟩, e5⟩, e1.trans z1⟩
  · unfold gRdI
    rw [p1]
    exact z1.symm
  · unfold gRs1I
    rw [p2]
    exact e3
  · unfold gRs2I
    rw [p3]
    exact e4
  · rw [hg]
    exact z5.symm
  · unfold gCsrI
    rw [p4]
    exact z4.symm
set_option maxHeartbeats 1000000 in
theorem made_G (op rd rs1 rs2 imm csr v : Int) (h0 : 66 ≤ op) (h1 : op ≤ 67) (h : isB op rd rs1 rs2 imm csr = true) (hv : v = encI op rd rs1 rs2 (imm % 4294967296) csr) : Made op rd rs1 rs2 imm csr v := by
  have hc : clsI op = 12 := (cls_12 (by omega) (by omega)).symm
  have p1 : hasRd op = true := decide_eq_true (by omega)
  have p2 : hasRs1 op = true := decide_eq_true (by omega)
  have p3 : hasRs2 op = false := decide_eq_false (by omega)
  have p4 : hasCsr op = false := decide_eq_false (by omega)
  have p5 : hasNum op = false := decide_eq_false (by omega)
  have he : ∀ n, encI op rd rs1 rs2 n csr = opcI op + f3I op * 4096 + rs1 * 32768 + rd * 128 + f7I op * 33554432 := fun n => by
    clear hv
    unfold encI
    rw [hc]
    repeat rw [if_neg (by omega)]
    rw [if_pos (by omega)]
  have hg : ∀ v, gImmI op v = 0 := fun v => by
    unfold gImmI
    rw [hc]
    repeat rw [if_neg (by omega)]
  obtain ⟨o0, o1, o2, o3, o4, o5⟩ := codes_bd op
  obtain ⟨d0, d1, d2, d3, d4, d5, d6, d7⟩ := is_bounds h
  simp only [isB, Bool.and_eq_true] at h
  obtain ⟨_, i1, i2, i3, i4, i5⟩ := h
  rw [p3] at i3
  have z3 : rs2 = 0 := reg_no i3
  rw [p4] at i4
  have z4 : csr = 0 := csr_no i4
  have z5 : imm = 0 := imm_no p5 i5
  rw [he] at hv
  clear he
  obtain ⟨bv, e0, e1, e2, e3, e4, e5⟩ := lay_G hv ⟨o0, o1⟩ ⟨o2, o3⟩ ⟨d2, d3⟩ ⟨d0, d1⟩ ⟨o4, o5⟩
  refine ⟨bv.1, bv.2, ?_, ?_, ?_, ?_, ?_, ?_⟩
  · rw [hit_G op v h0 h1 bv.1 bv.2]
    simp only [Bool.and_eq_true, beq_iff_eq]
    exact ⟨⟨⟨e0, e2⟩, e5⟩, e4⟩
  · unfold gRdI
    rw [p1]
    exact e1
  · unfold gRs1I
    rw [p2]
    exact e3
  · unfold gRs2I
    rw [p3]
    exact z3.symm
  · rw [hg]
    exact z5.symm
  · unfold gCsrI
    rw [p4]
    exact z4.symm
set_option maxHeartbeats 1000000 in
theorem made_X (op rd rs1 rs2 imm csr v : Int) (h0 : 68 ≤ op) (h1 : op ≤ 68) (h : isB op rd rs1 rs2 imm csr = true) (hv : v = encI op rd rs1 rs2 (imm % 4294967296) csr) : Made op rd rs1 rs2 imm csr v := by
  have hc : clsI op = 12 := (cls_12 (by omega) (by omega)).symm
  have p1 : hasRd op = true := decide_eq_true (by omega)
  have p2 : hasRs1 op = true := decide_eq_true (by omega)
  have p3 : hasRs2 op = false := decide_eq_false (by omega)
  have p4 : hasCsr op = false := decide_eq_false (by omega)
  have p5 : hasNum op = false := decide_eq_false (by omega)
  have he : ∀ n, encI op rd rs1 rs2 n csr = opcI op + f3I op * 4096 + rs1 * 32768 + rd * 128 + 3145728 + f7I op * 33554432 := fun n => by
    clear hv
    unfold encI
    rw [hc]
    repeat rw [if_neg (by omega)]
    rw [if_pos (by omega)]
  have hg : ∀ v, gImmI op v = 0 := fun v => by
    unfold gImmI
    rw [hc]
    repeat rw [if_neg (by omega)]
  obtain ⟨o0, o1, o2, o3, o4, o5⟩ := codes_bd op
  obtain ⟨d0, d1, d2, d3, d4, d5, d6, d7⟩ := is_bounds h
  simp only [isB, Bool.and_eq_true] at h
  obtain ⟨_, i1, i2, i3, i4, i5⟩ := h
  rw [p3] at i3
  have z3 : rs2 = 0 := reg_no i3
  rw [p4] at i4
  have z4 : csr = 0 := csr_no i4
  have z5 : imm = 0 := imm_no p5 i5
  rw [he] at hv
  clear he
  obtain ⟨bv, e0, e1, e2, e3, e4, e5⟩ := lay_X hv ⟨o0, o1⟩ ⟨o2, o3⟩ ⟨d2, d3⟩ ⟨d0, d1⟩ ⟨o4, o5⟩
  refine ⟨bv.1, bv.2, ?_, ?_, ?_, ?_, ?_, ?_⟩
  · rw [hit_X op v h0 h1 bv.1 bv.2]
    simp only [Bool.and_eq_true, beq_iff_eq]
    exact ⟨⟨⟨e0, e2⟩, e5⟩, e4⟩
  · unfold gRdI
    rw [p1]
    exact e1
  · unfold gRs1I
    rw [p2]
    exact e3
  · unfold gRs2I
    rw [p3]
    exact z3.symm
  · rw [hg]
    exact z5.symm
  · unfold gCsrI
    rw [p4]
    exact z4.symm
theorem made_fix (op rd rs1 rs2 imm csr v : Int) (h0 : 50 ≤ op ∧ op ≤ 53 ∨ 60 ≤ op ∧ op ≤ 62) (h : isB op rd rs1 rs2 imm csr = true) (hv : v = encI op rd rs1 rs2 (imm % 4294967296) csr) : Made op rd rs1 rs2 imm csr v := by
  have p1 : hasRd op = false := decide_eq_false (by omega)
  have p2 : hasRs1 op = false := decide_eq_false (by omega)
  have p3 : hasRs2 op = false := decide_eq_false (by omega)
  have p4 : hasCsr op = false := decide_eq_false (by omega)
  have p5 : hasNum op = false := decide_eq_false (by omega)
  have hc : clsI op = 7 ∨ clsI op = 8 ∨ clsI op = 10 := by
    have := op_cases (p := fun op => 50 ≤ op ∧ op ≤ 53 ∨ 60 ≤ op ∧ op ≤ 62 → clsI op = 7 ∨ clsI op = 8 ∨ clsI op = 10) (by decide +kernel) (fun op h a => by omega) op
    exact this h0
  have hb : 0 ≤ fixI op ∧ fixI op < 4294967296 := by
    have := op_cases (p := fun op => 50 ≤ op ∧ op ≤ 53 ∨ 60 ≤ op ∧ op ≤ 62 → 0 ≤ fixI op ∧ fixI op < 4294967296) (by decide +kernel) (fun op h a => by omega) op
    exact this h0
  have he : ∀ n, encI op rd rs1 rs2 n csr = fixI op := fun n => by
    clear hv
    unfold encI
    repeat rw [if_neg (by omega)]
    rw [if_pos (by omega)]
  have hg : ∀ v, gImmI op v = 0 := fun v => by
    unfold gImmI
    repeat rw [if_neg (by omega)]
  simp only [isB, Bool.and_eq_true] at h
  obtain ⟨_, i1, i2, i3, i4, i5⟩ := h
  rw [p1] at i1
  rw [p2] at i2
  rw [p3] at i3
  rw [p4] at i4
  rw [he] at hv
  subst hv
  refine ⟨hb.1, hb.2, ?_, ?_, ?_, ?_, ?_, ?_⟩
  · rw [hit_fix op _ h0]
    simp
  · unfold gRdI
    rw [p1]
    exact (reg_no i1).symm
  · unfold gRs1I
    rw [p2]
    exact (reg_no i2).symm
  · unfold gRs2I
    rw [p3]
    exact (reg_no i3).symm
  · rw [hg]
    exact (imm_no p5 i5).symm
  · unfold gCsrI
    rw [p4]
    exact (csr_no i4).symm
theorem made_any (op rd rs1 rs2 imm csr v : Int) (h : isB op rd rs1 rs2 imm csr = true) (hv : v = encI op rd rs1 rs2 (imm % 4294967296) csr) : Made op rd rs1 rs2 imm csr v := by
  obtain ⟨h0, h1⟩ := cls_of_is h
  by_cases c0 : op ≤ 2
  · exact made_U op rd rs1 rs2 imm csr v (by omega) c0 h hv
  by_cases c1 : op ≤ 3
  · exact made_J op rd rs1 rs2 imm csr v (by omega) c1 h hv
  by_cases c2 : op ≤ 4
  · exact made_Jr op rd rs1 rs2 imm csr v (by omega) c2 h hv
  by_cases c3 : op ≤ 10
  · exact made_B op rd rs1 rs2 imm csr v (by omega) c3 h hv
  by_cases c4 : op ≤ 17
  · exact made_L op rd rs1 rs2 imm csr v (by omega) c4 h hv
  by_cases c5 : op ≤ 21
  · exact made_S op rd rs1 rs2 imm csr v (by omega) c5 h hv
  by_cases c6 : op ≤ 27
  · exact made_I op rd rs1 rs2 imm csr v (by omega) c6 h hv
  by_cases c7 : op ≤ 30
  · exact made_H op rd rs1 rs2 imm csr v (by omega) c7 h hv
  by_cases c8 : op ≤ 31
  · exact made_Iw op rd rs1 rs2 imm csr v (by omega) c8 h hv
  by_cases c9 : op ≤ 34
  · exact made_Hw op rd rs1 rs2 imm csr v (by omega) c9 h hv
  by_cases c10 : op ≤ 49
  · exact made_R op rd rs1 rs2 imm csr v (by omega) c10 h hv
  by_cases c11 : op ≤ 53
  · exact made_fix op rd rs1 rs2 imm csr v (by omega) h hv
  by_cases c12 : op ≤ 56
  · exact made_C op rd rs1 rs2 imm csr v (by omega) c12 h hv
  by_cases c13 : op ≤ 59
  · exact made_Ci op rd rs1 rs2 imm csr v (by omega) c13 h hv
  by_cases c14 : op ≤ 62
  · exact made_fix op rd rs1 rs2 imm csr v (by omega) h hv
  by_cases c15 : op ≤ 65
  · exact made_V op rd rs1 rs2 imm csr v (by omega) c15 h hv
  by_cases c16 : op ≤ 67
  · exact made_G op rd rs1 rs2 imm csr v (by omega) c16 h hv
  by_cases c17 : op ≤ 68
  · exact made_X op rd rs1 rs2 imm csr v (by omega) c17 h hv
  exact made_Gs op rd rs1 rs2 imm csr v (by omega) (by omega) h hv
def tN : List Nat := [0, 127, 127, 127, 28799, 28799, 28799, 28799, 28799, 28799, 28799, 28799, 28799, 28799, 28799, 28799, 28799, 28799, 28799, 28799, 28799, 28799, 28799, 28799, 28799, 28799, 28799, 28799, 4227887231, 4227887231, 4227887231, 28799, 4261441663, 4261441663, 4261441663, 4261441663, 4261441663, 4261441663, 4261441663, 4261441663, 4261441663, 4261441663, 4261441663, 4261441663, 4261441663, 4261441663, 4261441663, 4261441663, 4261441663, 4261441663, 4294967295, 4294967295, 4294967295, 4294967295, 28799, 28799, 28799, 28799, 28799, 28799, 4294967295, 4294967295, 4294967295, 4261445631, 4261445631, 4261445631, 4293947519, 4293947519, 4293947519, 4261445631]
def hN : List Nat := [0, 55, 23, 111, 103, 99, 4195, 16483, 20579, 24675, 28771, 3, 4099, 8195, 12291, 16387, 20483, 24579, 35, 4131, 8227, 12323, 19, 8211, 12307, 16403, 24595, 28691, 4115, 20499, 1073762323, 27, 4123, 20507, 1073762331, 51, 1073741875, 4147, 8243, 12339, 16435, 20531, 1073762355, 24627, 28723, 59, 1073741883, 4155, 20539, 1073762363, 267386895, 4111, 115, 1048691, 4211, 8307, 12403, 20595, 24691, 28787, 807403635, 270532723, 273678451, 301990003, 570425459, 1644167283, 1744846963, 1811955827, 1747992691, 1845510259]
theorem tN_lt : ∀ op : Fin 70, tN.getD op.val 0 < 4294967296 ∧ hN.getD op.val 0 < 4294967296 := by decide +kernel
theorem t_tab : ∀ op : Fin 70, 1 ≤ op.val → tlI op.val = (tN.getD op.val 0 : Nat) ∧ hdI op.val = (hN.getD op.val 0 : Nat) := by decide +kernel
theorem t_apart : ∀ a b : Fin 70, a.val = 0 ∨ b.val = 0 ∨ a.val = b.val ∨ ((hN.getD a.val 0 &&& tN.getD b.val 0 == hN.getD b.val 0 &&& tN.getD a.val 0) = false) := by decide +kernel
theorem tell_nat {v : Nat} (hv : v < 4294967296) (op : Nat) (h0 : 1 ≤ op) (h1 : op < 70) (h : tellB op v = true) : v &&& tN.getD op 0 = hN.getD op 0 := by
  obtain ⟨t0, t1⟩ := t_tab ⟨op, h1⟩ h0
  have tl := (tN_lt ⟨op, h1⟩).1
  simp only at t0 t1 tl
  unfold tellB at h
  rw [t0, t1] at h
  have e := (bits_nat .u32 32 (by decide) wraps_u32 v (tN.getD op 0) (by omega) (by omega)).1
  rw [e] at h
  have := eq_of_beq h
  exact_mod_cast this
theorem hit_one {v : Int} (hv0 : 0 ≤ v) (hv1 : v < 4294967296) {a b : Nat} (a0 : 1 ≤ a) (a1 : a < 70) (b0 : 1 ≤ b) (b1 : b < 70) (ha : hitB a v = true) (hb : hitB b v = true) : a = b := by
  rw [← tell_hit a v (by omega) (by omega) hv0 hv1] at ha
  rw [← tell_hit b v (by omega) (by omega) hv0 hv1] at hb
  obtain ⟨n, rfl⟩ := Int.eq_ofNat_of_zero_le hv0
  have ea := tell_nat (by omega) a a0 a1 ha
  have eb := tell_nat (by omega) b b0 b1 hb
  rcases t_apart ⟨a, a1⟩ ⟨b, b1⟩ with h | h | h | h
  · simp only at h; omega
  · simp only at h; omega
  · exact h
  · simp only at h
    rw [← ea, ← eb, Nat.and_assoc, Nat.and_assoc, Nat.and_comm (tN.getD a 0)] at h
    simp at h
structure Reads (v op rd rs1 rs2 imm csr : Int) : Prop where
  op : xOp v = op
  rd : xRd v = rd
  rs1 : xRs1 v = rs1
  rs2 : xRs2 v = rs2
  imm : xImm v = imm
  csr : xCsr v = csr
  e : xE v = 0
theorem reads_made {op rd rs1 rs2 imm csr v : Int} (h0 : 1 ≤ op) (h1 : op ≤ 69) (m : Made op rd rs1 rs2 imm csr v) : Reads v op rd rs1 rs2 imm csr := by
  have hop : ((op.toNat : Nat) : Int) = op := Int.toNat_of_nonneg (by omega)
  have hit := m.hit
  rw [← hop] at hit
  rcases hit_ways3 v with ⟨ho, k0, k1, hy, _⟩ | ⟨ho, k0, hn⟩
  · have e : hitN v = op.toNat := hit_one m.b0 m.b1 k0 k1 (by omega) (by omega) hy hit
    have e' : ((hitN v : Nat) : Int) = op := by rw [e, hop]
    refine ⟨?_, ?_, ?_, ?_, ?_, ?_, ?_⟩
    · unfold xOp; exact e'
    · unfold xRd; rw [ho, e']; exact m.rd
    · unfold xRs1; rw [ho, e']; exact m.rs1
    · unfold xRs2; rw [ho, e']; exact m.rs2
    · unfold xImm; rw [ho, e']; exact m.imm
    · unfold xCsr; rw [ho, e']; exact m.csr
    · unfold xE; rw [ho]; rfl
  · rw [hn op.toNat (by omega) (by omega)] at hit
    cases hit
end Go.Proofs.YtdogjmimjjmmaaaDoor
