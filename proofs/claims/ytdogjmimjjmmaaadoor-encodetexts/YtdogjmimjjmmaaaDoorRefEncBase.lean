/-
  What the document's Encode answers (the reference of layers 3 and 4): walked, kind of operation by kind.
-/
import Derived.Test.YtdogjmimjjmmaaaDoorRefCodeB
import Derived.Test.YtdogjmimjjmmaaaDoorRefCodeC
import Derived.Test.YtdogjmimjjmmaaaDoorRefCodeD
import Derived.Test.YtdogjmimjjmmaaaDoorRefGuess
namespace Go.Proofs.YtdogjmimjjmmaaaDoor
open Go.RowKit
/-- Opcode, f3 and f7 of an operation, as P3.1 tells them. -/
def opcI (op : Int) : Int := ([0, 55, 23, 111, 103, 99, 99, 99, 99, 99, 99, 3, 3, 3, 3, 3, 3, 3, 35, 35, 35, 35, 19, 19, 19, 19, 19, 19, 19, 19, 19, 27, 27, 27, 27, 51, 51, 51, 51, 51, 51, 51, 51, 51, 51, 59, 59, 59, 59, 59, 0, 0, 0, 0, 115, 115, 115, 115, 115, 115, 0, 0, 0, 115, 115, 115, 115, 115, 115, 115] : List Int).getD op.toNat 0
def f3I (op : Int) : Int := ([0, 0, 0, 0, 0, 0, 1, 4, 5, 6, 7, 0, 1, 2, 3, 4, 5, 6, 0, 1, 2, 3, 0, 2, 3, 4, 6, 7, 1, 5, 5, 0, 1, 5, 5, 0, 0, 1, 2, 3, 4, 5, 5, 6, 7, 0, 0, 1, 5, 5, 0, 0, 0, 0, 1, 2, 3, 5, 6, 7, 0, 0, 0, 0, 0, 0, 4, 4, 4, 4] : List Int).getD op.toNat 0
def f7I (op : Int) : Int := ([0, 0, 0, 0, 0, 0, 0, 0, 0, 0, 0, 0, 0, 0, 0, 0, 0, 0, 0, 0, 0, 0, 0, 0, 0, 0, 0, 0, 0, 0, 32, 0, 0, 0, 32, 0, 32, 0, 0, 0, 0, 0, 32, 0, 0, 0, 32, 0, 0, 32, 0, 0, 0, 0, 0, 0, 0, 0, 0, 0, 0, 0, 0, 9, 17, 49, 52, 54, 52, 55] : List Int).getD op.toNat 0
set_option maxRecDepth 100000 in
theorem code_nat (w : World) : ∀ k : Nat, 1 ≤ k → k < 70 →
    Calls Tryd.prog 23 #[.int .i64 (k : Int)] w fun e w' => e = .returned (.tuple #[.int .u32 (opcI k), .int .u32 (f3I k), .int .u32 (f7I k)]) ∧ Grown w w'
    | 1, _, _ => code_1 w
    | 2, _, _ => code_2 w
    | 3, _, _ => code_3 w
    | 4, _, _ => code_4 w
    | 5, _, _ => code_5 w
    | 6, _, _ => code_6 w
    | 7, _, _ => code_7 w
    | 8, _, _ => code_8 w
    | 9, _, _ => code_9 w
    | 10, _, _ => code_10 w
    | 11, _, _ => code_11 w
    | 12, _, _ => code_12 w
    | 13, _, _ => code_13 w
    | 14, _, _ => code_14 w
    | 15, _, _ => code_15 w
    | 16, _, _ => code_16 w
    | 17, _, _ => code_17 w
    | 18, _, _ => code_18 w
    | 19, _, _ => code_19 w
    | 20, _, _ => code_20 w
    | 21, _, _ => code_21 w
    | 22, _, _ => code_22 w
    | 23, _, _ => code_23 w
    | 24, _, _ => code_24 w
    | 25, _, _ => code_25 w
    | 26, _, _ => code_26 w
    | 27, _, _ => code_27 w
    | 28, _, _ => code_28 w
    | 29, _, _ => code_29 w
    | 30, _, _ => code_30 w
    | 31, _, _ => code_31 w
    | 32, _, _ => code_32 w
    | 33, _, _ => code_33 w
    | 34, _, _ => code_34 w
    | 35, _, _ => code_35 w
    | 36, _, _ => code_36 w
    | 37, _, _ => code_37 w
    | 38, _, _ => code_38 w
    | 39, _, _ => code_39 w
    | 40, _, _ => code_40 w
    | 41, _, _ => code_41 w
    | 42, _, _ => code_42 w
    | 43, _, _ => code_43 w
    | 44, _, _ => code_44 w
    | 45, _, _ => code_45 w
    | 46, _, _ => code_46 w
    | 47, _, _ => code_47 w
    | 48, _, _ => code_48 w
    | 49, _, _ => code_49 w
    | 50, _, _ => code_50 w
    | 51, _, _ => code_51 w
    | 52, _, _ => code_52 w
    | 53, _, _ => code_53 w
    | 54, _, _ => code_54 w
    | 55, _, _ => code_55 w
    | 56, _, _ => code_56 w
    | 57, _, _ => code_57 w
    | 58, _, _ => code_58 w
    | 59, _, _ => code_59 w
    | 60, _, _ => code_60 w
    | 61, _, _ => code_61 w
    | 62, _, _ => code_62 w
    | 63, _, _ => code_63 w
    | 64, _, _ => code_64 w
    | 65, _, _ => code_65 w
    | 66, _, _ => code_66 w
    | 67, _, _ => code_67 w
    | 68, _, _ => code_68 w
    | 69, _, _ => code_69 w
    | 0, h, _ => absurd h (by decide)
    | n + 70, _, h => absurd h (by omega)
theorem code_any (op : Int) (h0 : 1 ≤ op) (h1 : op ≤ 69) (w : World) :
    Calls Tryd.prog 23 #[.int .i64 op] w fun e w' => e = .returned (.tuple #[.int .u32 (opcI op), .int .u32 (f3I op), .int .u32 (f7I op)]) ∧ Grown w w' := by
  have := code_nat w op.toNat (by omega) (by omega)
  rwa [show ((op.toNat : Nat) : Int) = op by omega] at this
end Go.Proofs.YtdogjmimjjmmaaaDoor
namespace Go.Proofs.YtdogjmimjjmmaaaDoor
open Go.RowKit
theorem or_mid (i j : Nat) (hij : i ≤ j) {x y : Int} (hx0 : 0 ≤ x) (hx1 : x < 4294967296) (hlo : x % 2 ^ j < 2 ^ i) (hy0 : 0 ≤ y) (hy : y % 2 ^ i = 0) (hyj : y < 2 ^ j) (hy1 : y < 4294967296) : bits .or .u32 x y = x + y := by
  obtain ⟨a, rfl⟩ := Int.eq_ofNat_of_zero_le hx0
  obtain ⟨b, rfl⟩ := Int.eq_ofNat_of_zero_le hy0
  have ha : a < 2 ^ 32 := by omega
  have hb : b < 2 ^ 32 := by omega
  rw [(bits_nat .u32 32 (by decide) wraps_u32 a b ha hb).2]
  have hlo' : a % 2 ^ j < 2 ^ i := by exact_mod_cast hlo
  have hy' : b % 2 ^ i = 0 := by exact_mod_cast hy
  have hyj' : b < 2 ^ j := by exact_mod_cast hyj
  have e1 : 2 ^ j * (a / 2 ^ j) + a % 2 ^ j = a := Nat.div_add_mod a (2 ^ j)
  have e2 : 2 ^ i * (b / 2 ^ i) = b := by have := Nat.div_add_mod b (2 ^ i); omega
  have hp : 2 ^ j = 2 ^ i * 2 ^ (j - i) := by rw [← Nat.pow_add]; congr 1; omega
  have hs : b + a % 2 ^ j < 2 ^ j := by
    have hq : b / 2 ^ i < 2 ^ (j - i) := Nat.div_lt_of_lt_mul (by rw [← hp]; exact hyj')
    have : 2 ^ i * (b / 2 ^ i + 1) ≤ 2 ^ i * 2 ^ (j - i) := Nat.mul_le_mul_left _ hq
    rw [Nat.mul_add, e2, ← hp] at this
    omega
  have o1 : a = 2 ^ j * (a / 2 ^ j) ||| a % 2 ^ j := by
    rw [← Nat.two_pow_add_eq_or_of_lt (Nat.mod_lt _ (Nat.two_pow_pos j)), e1]
  have o2 : b ||| a % 2 ^ j = b + a % 2 ^ j := by
    have := Nat.two_pow_add_eq_or_of_lt hlo' (b / 2 ^ i)
    rw [e2] at this
    exact this.symm
  have : a ||| b = a + b := by
    have o3 : a ||| b = (2 ^ j * (a / 2 ^ j) ||| a % 2 ^ j) ||| b := by rw [← o1]
    rw [o3, Nat.or_assoc, Nat.or_comm (a % 2 ^ j) b, o2, ← Nat.two_pow_add_eq_or_of_lt hs]
    omega
  rw [this]
  simp
theorem low_of {S P I : Int} (small q : Int) (h : S = small + P * q) (h0 : 0 ≤ small) (h1 : small < I) (h2 : I ≤ P) : S % P < I := by
  rw [h, Int.add_mul_emod_self_left, Int.emod_eq_of_lt h0 (by omega)]
  exact h1
theorem is_bounds {op rd rs1 rs2 imm csr : Int} (h : isB op rd rs1 rs2 imm csr = true) : 0 ≤ rd ∧ rd < 32 ∧ 0 ≤ rs1 ∧ rs1 < 32 ∧ 0 ≤ rs2 ∧ rs2 < 32 ∧ 0 ≤ csr ∧ csr < 4096 := by
  simp only [isB, Bool.and_eq_true, bne_iff_ne, ne_eq] at h
  obtain ⟨g0, g1, g2, g3, g4, g5⟩ := h
  simp only [regB, csrB, Bool.or_eq_true, beq_iff_eq, Bool.and_eq_true, decide_eq_true_eq] at g1 g2 g3 g4
  omega
theorem codes_bd (op : Int) : 0 ≤ opcI op ∧ opcI op < 128 ∧ 0 ≤ f3I op ∧ f3I op < 8 ∧ 0 ≤ f7I op ∧ f7I op < 128 := by
  refine op_cases (p := fun op => 0 ≤ opcI op ∧ opcI op < 128 ∧ 0 ≤ f3I op ∧ f3I op < 8 ∧ 0 ≤ f7I op ∧ f7I op < 128) (by decide +kernel) (fun op h => ?_) op
  unfold opcI f3I f7I
  by_cases h0 : op < 0
  · rw [show op.toNat = 0 by omega]; decide +kernel
  · rw [List.getD_eq_getElem?_getD, List.getD_eq_getElem?_getD, List.getD_eq_getElem?_getD, List.getElem?_eq_none (by simp; omega), List.getElem?_eq_none (by simp; omega), List.getElem?_eq_none (by simp; omega)]
    decide
theorem codes_zero {op : Int} (h : 0 ≤ op ∧ op < 30 ∨ op = 31) : f7I op = 0 := by
  have := op_cases (p := fun op => 0 ≤ op ∧ op < 30 ∨ op = 31 → f7I op = 0) (by decide +kernel) (fun op h a => by omega) op
  exact this h
theorem codes_even {op : Int} (h : 28 ≤ op ∧ op ≤ 34) : f7I op % 2 = 0 := by
  have := op_cases (p := fun op => 28 ≤ op ∧ op ≤ 34 → f7I op % 2 = 0) (by decide +kernel) (fun op h a => by omega) op
  exact this h
theorem codes_h {op : Int} (h : 28 ≤ op ∧ op ≤ 34) : f7I op = 0 ∨ f7I op = 32 := by
  have := op_cases (p := fun op => 28 ≤ op ∧ op ≤ 34 → f7I op = 0 ∨ f7I op = 32) (by decide +kernel) (fun op h a => by omega) op
  exact this h
theorem ret_enc {a b : Int} (h : a = b) : Ending.returned (.tuple #[.int .u32 a, .bool true]) = .returned (.tuple #[.int .u32 b, .bool true]) := by rw [h]
theorem fix_none {op : Int} (h : op < 50 ∨ 54 ≤ op ∧ op < 60 ∨ 63 ≤ op) : fixI op = 0 := by
  unfold fixI
  repeat rw [if_neg (by omega)]
theorem code_from {W w : World} (hg : Grown W w) (op : Int) (h0 : 1 ≤ op) (h1 : op ≤ 69) :
    Calls Tryd.prog 23 #[.int .i64 op] w fun e w' => e = .returned (.tuple #[.int .u32 (opcI op), .int .u32 (f3I op), .int .u32 (f7I op)]) ∧ Grown W w' :=
  (code_any op h0 h1 w).mono fun _ _ h => ⟨h.1, Grown.trans' hg h.2⟩
end Go.Proofs.YtdogjmimjjmmaaaDoor
