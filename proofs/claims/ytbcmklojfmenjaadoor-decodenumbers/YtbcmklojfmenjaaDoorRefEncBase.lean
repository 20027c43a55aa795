/-
  What the document's Encode answers (the reference of layers 3 and 4): walked, kind of operation by kind.
-/
import Derived.Test.YtbcmklojfmenjaaDoorRefCode
import Derived.Test.YtbcmklojfmenjaaDoorRefGuessA
namespace Go.Proofs.YtbcmklojfmenjaaDoor
open Go.RowKit
theorem or_mid (i j : Nat) (hij : i ≤ j) {x y : Int} (hx0 : 0 ≤ x) (hx1 : x < 4294967296) (hlo : x % 2 ^ j < 2 ^ i) (hy0 : 0 ≤ y) (hy : y % 2 ^ i = 0) (hyj : y < 2 ^ j) (hy1 : y < 4294967296) : bits .or .u32 x y = x + y := by
  obtain ⟨a, rfl⟩ := Int.eq_ofNat_of_zero_le hx0
  obtain ⟨b, rfl⟩ := Int.eq_ofNat_of_zero_le hy0
  have ha : a < 2 ^ 32 := by omega
  have hb : b < 2 ^ 32 := by omega
  rw [(bits_nat .u32 32 (by decide) wraps_u32 a b ha hb).2]
  have hlo' : a % 2 ^ j < 2 ^ i := by exact_mod_cast hlo
  have hy' : b % 2 ^ i = 0 := by exact_mod_cast hy
  have hyj' : b < 2 ^ j := by exact_mod_cast hyj
  have e1 : 2 ^ j * (a / 2 ^ j) + a % 2 ^ j = a := Nat.div_add_mod a (2 ^ j)
  have e2 : 2 ^ i * (b / 2 ^ i) = b := by have := Nat.div_add_mod b (2 ^ i); omega
  have hp : 2 ^ j = 2 ^ i * 2 ^ (j - i) := by rw [← Nat.pow_add]; congr 1; omega
  have hs : b + a % 2 ^ j < 2 ^ j := by
    have hq : b / 2 ^ i < 2 ^ (j - i) := Nat.div_lt_of_lt_mul (by rw [← hp]; exact hyj')
    have : 2 ^ i * (b / 2 ^ i + 1) ≤ 2 ^ i * 2 ^ (j - i) := Nat.mul_le_mul_left _ hq
    rw [Nat.mul_add, e2, ← hp] at this
    omega
  have o1 : a = 2 ^ j * (a / 2 ^ j) ||| a % 2 ^ j := by
    rw [← Nat.two_pow_add_eq_or_of_lt (Nat.mod_lt _ (Nat.two_pow_pos j)), e1]
  have o2 : b ||| a % 2 ^ j = b + a % 2 ^ j := by
    have := Nat.two_pow_add_eq_or_of_lt hlo' (b / 2 ^ i)
    rw [e2] at this
    exact this.symm
  have : a ||| b = a + b := by
    have o3 : a ||| b = (2 ^ j * (a / 2 ^ j) ||| a % 2 ^ j) ||| b := by rw [← o1]
    rw [o3, Nat.or_assoc, Nat.or_comm (a % 2 ^ j) b, o2, ← Nat.two_pow_add_eq_or_of_lt hs]
    omega
  rw [this]
  simp
theorem low_of {S P I : Int} (small q : Int) (h : S = small + P * q) (h0 : 0 ≤ small) (h1 : small < I) (h2 : I ≤ P) : S % P < I := by
  rw [h, Int.add_mul_emod_self_left, Int.emod_eq_of_lt h0 (by omega)]
  exact h1
theorem is_bounds {op rd rs1 rs2 imm csr : Int} (h : isB op rd rs1 rs2 imm csr = true) : 0 ≤ rd ∧ rd < 32 ∧ 0 ≤ rs1 ∧ rs1 < 32 ∧ 0 ≤ rs2 ∧ rs2 < 32 ∧ 0 ≤ csr ∧ csr < 4096 := by
  simp only [isB, Bool.and_eq_true, bne_iff_ne, ne_eq] at h
  obtain ⟨g0, g1, g2, g3, g4, g5⟩ := h
  simp only [regB, csrB, Bool.or_eq_true, beq_iff_eq, Bool.and_eq_true, decide_eq_true_eq] at g1 g2 g3 g4
  omega
theorem codes_bd (op : Int) : 0 ≤ opcI op ∧ opcI op < 128 ∧ 0 ≤ f3I op ∧ f3I op < 8 ∧ 0 ≤ f7I op ∧ f7I op < 128 := by
  refine op_cases (p := fun op => 0 ≤ opcI op ∧ opcI op < 128 ∧ 0 ≤ f3I op ∧ f3I op < 8 ∧ 0 ≤ f7I op ∧ f7I op < 128) (by decide +kernel) (fun op h => ?_) op
  unfold opcI f3I f7I
  by_cases h0 : op < 0
  · rw [show op.toNat = 0 by omega]; decide +kernel
  · rw [List.getD_eq_getElem?_getD, List.getD_eq_getElem?_getD, List.getD_eq_getElem?_getD, List.getElem?_eq_none (by simp; omega), List.getElem?_eq_none (by simp; omega), List.getElem?_eq_none (by simp; omega)]
    decide
theorem codes_zero {op : Int} (h : 0 ≤ op ∧ op < 30 ∨ op = 31) : f7I op = 0 := by
  have := op_cases (p := fun op => 0 ≤ op ∧ op < 30 ∨ op = 31 → f7I op = 0) (by decide +kernel) (fun op h a => by omega) op
  exact this h
theorem codes_even {op : Int} (h : 28 ≤ op ∧ op ≤ 34) : f7I op % 2 = 0 := by
  have := op_cases (p := fun op => 28 ≤ op ∧ op ≤ 34 → f7I op % 2 = 0) (by decide +kernel) (fun op h a => by omega) op
  exact this h
theorem codes_h {op : Int} (h : 28 ≤ op ∧ op ≤ 34) : f7I op = 0 ∨ f7I op = 32 := by
  have := op_cases (p := fun op => 28 ≤ op ∧ op ≤ 34 → f7I op = 0 ∨ f7I op = 32) (by decide +kernel) (fun op h a => by omega) op
  exact this h
theorem ret_enc {a b : Int} (h : a = b) : Ending.returned (.tuple #[.int .u32 a, .bool true]) = .returned (.tuple #[.int .u32 b, .bool true]) := by rw [h]
theorem fix_none {op : Int} (h : op < 50 ∨ 54 ≤ op ∧ op < 60 ∨ 63 ≤ op) : fixI op = 0 := by
  unfold fixI
  repeat rw [if_neg (by omega)]
theorem code_from {W w : World} (hg : Grown W w) (op : Int) (h0 : 1 ≤ op) (h1 : op ≤ 69) :
    Calls Tryd.prog 19 #[.int .i64 op] w fun e w' => e = .returned (.tuple #[.int .u32 (opcI op), .int .u32 (f3I op), .int .u32 (f7I op)]) ∧ Grown W w' :=
  (code_any op h0 h1 w).mono fun _ _ h => ⟨h.1, Grown.trans' hg h.2⟩
end Go.Proofs.YtbcmklojfmenjaaDoor
