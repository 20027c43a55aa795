/-
  Package encode's parts put together: the document's word.
-/
import Derived.Test.YtdogjmimjjmmaaaDoorRows
import Derived.WalkKit
import Derived.Laws.BitsLemmas
import Derived.Lib.EndianBits
import Derived.Laws.Bits64b
import Derived.Test.YtdogjmimjjmmaaaDoorEncWord
import Derived.Test.YtdogjmimjjmmaaaDoorRefEnc
namespace Go.Proofs.YtdogjmimjjmmaaaDoor
open Go.RowKit
/-- A number whose bits lie within the mask M. -/
structure Fit (x : Int) (M : Nat) : Prop where
  n : ∃ a : Nat, x = a ∧ a &&& M = a
theorem Fit.le {x : Int} {M : Nat} (h : Fit x M) : 0 ≤ x ∧ x ≤ M := by
  obtain ⟨a, rfl, ha⟩ := h.n
  have : a ≤ M := by rw [← ha]; exact Nat.and_le_right
  omega
theorem or_add (a : Nat) : ∀ b : Nat, a &&& b = 0 → a ||| b = a + b := by
  induction a using Nat.strongRecOn with
  | _ a ih =>
    intro b h
    by_cases ha : a = 0
    · subst ha; simp
    · have hd : a / 2 &&& b / 2 = 0 := by rw [← Nat.and_div_two, h]
      have e := ih (a / 2) (by omega) (b / 2) hd
      rw [← Nat.or_div_two] at e
      have h1 := @Nat.or_mod_two_eq_one a b
      have h2 := @Nat.and_mod_two_eq_one a b
      rw [h] at h2
      omega
theorem fit_or {x y : Int} {M N : Nat} (hx : Fit x M) (hy : Fit y N) (h : M &&& N = 0) (hM : M < 18446744073709551616) (hN : N < 18446744073709551616) : bits .or .u64 x y = x + y ∧ Fit (x + y) (M ||| N) := by
  have hx1 := hx.le
  have hy1 := hy.le
  obtain ⟨a, rfl, ha⟩ := hx.n
  obtain ⟨b, rfl, hb⟩ := hy.n
  have hab : a &&& b = 0 := by
    rw [← ha, ← hb, Nat.and_assoc, ← Nat.and_assoc M b N, Nat.and_comm M b, Nat.and_assoc b M N, h, Nat.and_zero, Nat.and_zero]
  have e := or_add a b hab
  rw [(bits_nat .u64 64 (by decide) wraps_u64 a b (by omega) (by omega)).2, e]
  refine ⟨by omega, ⟨a + b, by omega, ?_⟩⟩
  rw [← e]
  apply Nat.eq_of_testBit_eq
  intro i
  have h1 := congrArg (fun n => Nat.testBit n i) ha
  have h2 := congrArg (fun n => Nat.testBit n i) hb
  simp only [Nat.testBit_and, Nat.testBit_or] at *
  revert h1 h2
  cases a.testBit i <;> cases b.testBit i <;> cases M.testBit i <;> cases N.testBit i <;> decide
theorem fit_mul (i k : Nat) {x : Int} (h0 : 0 ≤ x) (h1 : x < 2 ^ k) : Fit (x * 2 ^ i) ((2 ^ k - 1) * 2 ^ i) := by
  obtain ⟨a, rfl⟩ := Int.eq_ofNat_of_zero_le h0
  have ha : a < 2 ^ k := by exact_mod_cast h1
  refine ⟨a * 2 ^ i, by push_cast; rfl, ?_⟩
  apply Nat.eq_of_testBit_eq
  intro j
  rw [Nat.testBit_and, Nat.testBit_mul_two_pow, Nat.testBit_mul_two_pow, Nat.testBit_two_pow_sub_one]
  by_cases hj : i ≤ j
  · simp only [hj, decide_true, Bool.true_and]
    by_cases hk : j - i < k
    · simp [hk]
    · simp only [hk, decide_false, Bool.and_false]
      exact (Nat.testBit_lt_two_pow (Nat.lt_of_lt_of_le ha (Nat.pow_le_pow_right (by decide) (by omega)))).symm
  · simp [hj]
theorem fit_nil : Fit 0 0 := ⟨0, rfl, rfl⟩
theorem fit_of {x : Int} {M : Nat} (h0 : 0 ≤ x) (h : x.toNat &&& M = x.toNat) : Fit x M := ⟨x.toNat, (Int.toNat_of_nonneg h0).symm, h⟩
theorem Fit.cast {x y : Int} {M N : Nat} (h : Fit x M) (e : x = y) (f : M = N) : Fit y N := e ▸ f ▸ h
/-- Parts that share no bit, put together. -/
theorem enc_sum {h a b c d n : Int} {H A B C D N : Nat} (fh : Fit h H) (fa : Fit a A) (fb : Fit b B) (fc : Fit c C) (fd : Fit d D) (fn : Fit n N)
    (dis : (decide (A &&& B = 0) && decide ((A ||| B) &&& C = 0) && decide ((A ||| B ||| C) &&& D = 0) && decide (H &&& (A ||| B ||| C ||| D) = 0) && decide ((H ||| (A ||| B ||| C ||| D)) &&& N = 0) && decide ((H ||| (A ||| B ||| C ||| D)) ||| N < 4294967296)) = true) :
    bits .or .u64 (bits .or .u64 h (bits .or .u64 (bits .or .u64 (bits .or .u64 a b) c) d)) n = h + (a + b + c + d) + n ∧ 0 ≤ h + (a + b + c + d) + n ∧ h + (a + b + c + d) + n < 4294967296 := by
  simp only [Bool.and_eq_true, decide_eq_true_eq] at dis
  obtain ⟨⟨⟨⟨⟨d1, d2⟩, d3⟩, d4⟩, d5⟩, d6⟩ := dis
  have le : ∀ x y : Nat, x ≤ x ||| y ∧ y ≤ x ||| y := fun x y => ⟨Nat.left_le_or, Nat.right_le_or⟩
  have l1 := le A B
  have l2 := le (A ||| B) C
  have l3 := le (A ||| B ||| C) D
  have l4 := le H (A ||| B ||| C ||| D)
  have l5 := le (H ||| (A ||| B ||| C ||| D)) N
  obtain ⟨e1, f1⟩ := fit_or fa fb d1 (by omega) (by omega)
  obtain ⟨e2, f2⟩ := fit_or f1 fc d2 (by omega) (by omega)
  obtain ⟨e3, f3⟩ := fit_or f2 fd d3 (by omega) (by omega)
  obtain ⟨e4, f4⟩ := fit_or fh f3 d4 (by omega) (by omega)
  obtain ⟨e5, f5⟩ := fit_or f4 fn d5 (by omega) (by omega)
  rw [e1, e2, e3, e4, e5]
  have := f5.le
  exact ⟨rfl, this.1, by omega⟩
end Go.Proofs.YtdogjmimjjmmaaaDoor
namespace Go.Proofs.YtdogjmimjjmmaaaDoor
open Go.RowKit
theorem fitm (i k : Nat) (p : Int) (M : Nat) (hp : (2 : Int) ^ i = p) (hM : (2 ^ k - 1) * 2 ^ i = M) {x : Int} (h0 : 0 ≤ x) (h1 : x < 2 ^ k) : Fit (x * p) M := hp ▸ hM ▸ fit_mul i k h0 h1
theorem fit_z (p : Int) : Fit (0 * p) 0 := by rw [Int.zero_mul]; exact fit_nil
theorem regno {r : Int} (h : regB r false = true) : r = 0 := by simpa [regB] using h
theorem csrno {r : Int} (h : csrB r false = true) : r = 0 := by simpa [csrB] using h
theorem immno {op imm : Int} (h : hasNum op = false) (hi : immB op imm = true) : imm = 0 := by
  rw [immB, h] at hi
  simpa using hi
theorem bE_0_5 (imm : Int) : bitsI (IntKind.u64.wrap imm) 0 5 = imm % 4294967296 % 32 ∧ 0 ≤ imm % 4294967296 % 32 ∧ imm % 4294967296 % 32 < 2 ^ 5 := by
  have a : loI 0 = 0 := by decide
  have b : manyI 0 5 = 5 := by decide
  have c : onesI 5 = 2 ^ 5 - 1 := by decide
  have e : IntKind.u64.wrap imm = imm % 18446744073709551616 := IntKind.wrap_u64 imm
  unfold bitsI
  rw [a, b, c, e, show (2 : Int) ^ (0 : Int).toNat = 1 from rfl, bits_mask .u64 64 (by decide) wraps_u64 5 (by decide) _ (by omega) (by omega), show (2 : Int) ^ 5 = 32 from rfl]
  refine ⟨?_, ?_, ?_⟩ <;> omega
theorem bE_0_12 (imm : Int) : bitsI (IntKind.u64.wrap imm) 0 12 = imm % 4294967296 % 4096 ∧ 0 ≤ imm % 4294967296 % 4096 ∧ imm % 4294967296 % 4096 < 2 ^ 12 := by
  have a : loI 0 = 0 := by decide
  have b : manyI 0 12 = 12 := by decide
  have c : onesI 12 = 2 ^ 12 - 1 := by decide
  have e : IntKind.u64.wrap imm = imm % 18446744073709551616 := IntKind.wrap_u64 imm
  unfold bitsI
  rw [a, b, c, e, show (2 : Int) ^ (0 : Int).toNat = 1 from rfl, bits_mask .u64 64 (by decide) wraps_u64 12 (by decide) _ (by omega) (by omega), show (2 : Int) ^ 12 = 4096 from rfl]
  refine ⟨?_, ?_, ?_⟩ <;> omega
theorem bE_1_4 (imm : Int) : bitsI (IntKind.u64.wrap imm) 1 4 = imm % 4294967296 / 2 % 16 ∧ 0 ≤ imm % 4294967296 / 2 % 16 ∧ imm % 4294967296 / 2 % 16 < 2 ^ 4 := by
  have a : loI 1 = 1 := by decide
  have b : manyI 1 4 = 4 := by decide
  have c : onesI 4 = 2 ^ 4 - 1 := by decide
  have e : IntKind.u64.wrap imm = imm % 18446744073709551616 := IntKind.wrap_u64 imm
  unfold bitsI
  rw [a, b, c, e, show (2 : Int) ^ (1 : Int).toNat = 2 from rfl, bits_mask .u64 64 (by decide) wraps_u64 4 (by decide) _ (by omega) (by omega), show (2 : Int) ^ 4 = 16 from rfl]
  refine ⟨?_, ?_, ?_⟩ <;> omega
theorem bE_1_10 (imm : Int) : bitsI (IntKind.u64.wrap imm) 1 10 = imm % 4294967296 / 2 % 1024 ∧ 0 ≤ imm % 4294967296 / 2 % 1024 ∧ imm % 4294967296 / 2 % 1024 < 2 ^ 10 := by
  have a : loI 1 = 1 := by decide
  have b : manyI 1 10 = 10 := by decide
  have c : onesI 10 = 2 ^ 10 - 1 := by decide
  have e : IntKind.u64.wrap imm = imm % 18446744073709551616 := IntKind.wrap_u64 imm
  unfold bitsI
  rw [a, b, c, e, show (2 : Int) ^ (1 : Int).toNat = 2 from rfl, bits_mask .u64 64 (by decide) wraps_u64 10 (by decide) _ (by omega) (by omega), show (2 : Int) ^ 10 = 1024 from rfl]
  refine ⟨?_, ?_, ?_⟩ <;> omega
theorem bE_5_6 (imm : Int) : bitsI (IntKind.u64.wrap imm) 5 6 = imm % 4294967296 / 32 % 64 ∧ 0 ≤ imm % 4294967296 / 32 % 64 ∧ imm % 4294967296 / 32 % 64 < 2 ^ 6 := by
  have a : loI 5 = 5 := by decide
  have b : manyI 5 6 = 6 := by decide
  have c : onesI 6 = 2 ^ 6 - 1 := by decide
  have e : IntKind.u64.wrap imm = imm % 18446744073709551616 := IntKind.wrap_u64 imm
  unfold bitsI
  rw [a, b, c, e, show (2 : Int) ^ (5 : Int).toNat = 32 from rfl, bits_mask .u64 64 (by decide) wraps_u64 6 (by decide) _ (by omega) (by omega), show (2 : Int) ^ 6 = 64 from rfl]
  refine ⟨?_, ?_, ?_⟩ <;> omega
theorem bE_5_7 (imm : Int) : bitsI (IntKind.u64.wrap imm) 5 7 = imm % 4294967296 / 32 % 128 ∧ 0 ≤ imm % 4294967296 / 32 % 128 ∧ imm % 4294967296 / 32 % 128 < 2 ^ 7 := by
  have a : loI 5 = 5 := by decide
  have b : manyI 5 7 = 7 := by decide
  have c : onesI 7 = 2 ^ 7 - 1 := by decide
  have e : IntKind.u64.wrap imm = imm % 18446744073709551616 := IntKind.wrap_u64 imm
  unfold bitsI
  rw [a, b, c, e, show (2 : Int) ^ (5 : Int).toNat = 32 from rfl, bits_mask .u64 64 (by decide) wraps_u64 7 (by decide) _ (by omega) (by omega), show (2 : Int) ^ 7 = 128 from rfl]
  refine ⟨?_, ?_, ?_⟩ <;> omega
theorem bE_11_1 (imm : Int) : bitsI (IntKind.u64.wrap imm) 11 1 = imm % 4294967296 / 2048 % 2 ∧ 0 ≤ imm % 4294967296 / 2048 % 2 ∧ imm % 4294967296 / 2048 % 2 < 2 ^ 1 := by
  have a : loI 11 = 11 := by decide
  have b : manyI 11 1 = 1 := by decide
  have c : onesI 1 = 2 ^ 1 - 1 := by decide
  have e : IntKind.u64.wrap imm = imm % 18446744073709551616 := IntKind.wrap_u64 imm
  unfold bitsI
  rw [a, b, c, e, show (2 : Int) ^ (11 : Int).toNat = 2048 from rfl, bits_mask .u64 64 (by decide) wraps_u64 1 (by decide) _ (by omega) (by omega), show (2 : Int) ^ 1 = 2 from rfl]
  refine ⟨?_, ?_, ?_⟩ <;> omega
theorem bE_12_1 (imm : Int) : bitsI (IntKind.u64.wrap imm) 12 1 = imm % 4294967296 / 4096 % 2 ∧ 0 ≤ imm % 4294967296 / 4096 % 2 ∧ imm % 4294967296 / 4096 % 2 < 2 ^ 1 := by
  have a : loI 12 = 12 := by decide
  have b : manyI 12 1 = 1 := by decide
  have c : onesI 1 = 2 ^ 1 - 1 := by decide
  have e : IntKind.u64.wrap imm = imm % 18446744073709551616 := IntKind.wrap_u64 imm
  unfold bitsI
  rw [a, b, c, e, show (2 : Int) ^ (12 : Int).toNat = 4096 from rfl, bits_mask .u64 64 (by decide) wraps_u64 1 (by decide) _ (by omega) (by omega), show (2 : Int) ^ 1 = 2 from rfl]
  refine ⟨?_, ?_, ?_⟩ <;> omega
theorem bE_12_8 (imm : Int) : bitsI (IntKind.u64.wrap imm) 12 8 = imm % 4294967296 / 4096 % 256 ∧ 0 ≤ imm % 4294967296 / 4096 % 256 ∧ imm % 4294967296 / 4096 % 256 < 2 ^ 8 := by
  have a : loI 12 = 12 := by decide
  have b : manyI 12 8 = 8 := by decide
  have c : onesI 8 = 2 ^ 8 - 1 := by decide
  have e : IntKind.u64.wrap imm = imm % 18446744073709551616 := IntKind.wrap_u64 imm
  unfold bitsI
  rw [a, b, c, e, show (2 : Int) ^ (12 : Int).toNat = 4096 from rfl, bits_mask .u64 64 (by decide) wraps_u64 8 (by decide) _ (by omega) (by omega), show (2 : Int) ^ 8 = 256 from rfl]
  refine ⟨?_, ?_, ?_⟩ <;> omega
theorem bE_12_20 (imm : Int) : bitsI (IntKind.u64.wrap imm) 12 20 = imm % 4294967296 / 4096 % 1048576 ∧ 0 ≤ imm % 4294967296 / 4096 % 1048576 ∧ imm % 4294967296 / 4096 % 1048576 < 2 ^ 20 := by
  have a : loI 12 = 12 := by decide
  have b : manyI 12 20 = 20 := by decide
  have c : onesI 20 = 2 ^ 20 - 1 := by decide
  have e : IntKind.u64.wrap imm = imm % 18446744073709551616 := IntKind.wrap_u64 imm
  unfold bitsI
  rw [a, b, c, e, show (2 : Int) ^ (12 : Int).toNat = 4096 from rfl, bits_mask .u64 64 (by decide) wraps_u64 20 (by decide) _ (by omega) (by omega), show (2 : Int) ^ 20 = 1048576 from rfl]
  refine ⟨?_, ?_, ?_⟩ <;> omega
theorem bE_20_1 (imm : Int) : bitsI (IntKind.u64.wrap imm) 20 1 = imm % 4294967296 / 1048576 % 2 ∧ 0 ≤ imm % 4294967296 / 1048576 % 2 ∧ imm % 4294967296 / 1048576 % 2 < 2 ^ 1 := by
  have a : loI 20 = 20 := by decide
  have b : manyI 20 1 = 1 := by decide
  have c : onesI 1 = 2 ^ 1 - 1 := by decide
  have e : IntKind.u64.wrap imm = imm % 18446744073709551616 := IntKind.wrap_u64 imm
  unfold bitsI
  rw [a, b, c, e, show (2 : Int) ^ (20 : Int).toNat = 1048576 from rfl, bits_mask .u64 64 (by decide) wraps_u64 1 (by decide) _ (by omega) (by omega), show (2 : Int) ^ 1 = 2 from rfl]
  refine ⟨?_, ?_, ?_⟩ <;> omega
theorem num_U (imm : Int) : IntKind.u64.wrap (bitsI (IntKind.u64.wrap imm) 12 20 * 4096) = imm % 4294967296 / 4096 % 1048576 * 4096 ∧ Fit (imm % 4294967296 / 4096 % 1048576 * 4096) 4294963200 := by
  obtain ⟨e0, l0, u0⟩ := bE_12_20 imm
  rw [e0]
  generalize imm % 4294967296 / 4096 % 1048576 = x0 at *
  rw [wraps_u64 (x0 * 4096) (by omega) (by omega)]
  have f0 := fitm 12 20 4096 4294963200 rfl rfl l0 u0
  exact ⟨rfl, f0.cast rfl (by decide)⟩
theorem num_J (imm : Int) : bits .or .u64 (bits .or .u64 (bits .or .u64 (IntKind.u64.wrap (bitsI (IntKind.u64.wrap imm) 1 10 * 2097152)) (IntKind.u64.wrap (bitsI (IntKind.u64.wrap imm) 11 1 * 1048576))) (IntKind.u64.wrap (bitsI (IntKind.u64.wrap imm) 12 8 * 4096))) (IntKind.u64.wrap (bitsI (IntKind.u64.wrap imm) 20 1 * 2147483648)) = imm % 4294967296 / 2 % 1024 * 2097152 + imm % 4294967296 / 2048 % 2 * 1048576 + imm % 4294967296 / 4096 % 256 * 4096 + imm % 4294967296 / 1048576 % 2 * 2147483648 ∧ Fit (imm % 4294967296 / 2 % 1024 * 2097152 + imm % 4294967296 / 2048 % 2 * 1048576 + imm % 4294967296 / 4096 % 256 * 4096 + imm % 4294967296 / 1048576 % 2 * 2147483648) 4294963200 := by
  obtain ⟨e0, l0, u0⟩ := bE_1_10 imm
  rw [e0]
  generalize imm % 4294967296 / 2 % 1024 = x0 at *
  rw [wraps_u64 (x0 * 2097152) (by omega) (by omega)]
  have f0 := fitm 21 10 2097152 2145386496 rfl rfl l0 u0
  obtain ⟨e1, l1, u1⟩ := bE_11_1 imm
  rw [e1]
  generalize imm % 4294967296 / 2048 % 2 = x1 at *
  rw [wraps_u64 (x1 * 1048576) (by omega) (by omega)]
  have f1 := fitm 20 1 1048576 1048576 rfl rfl l1 u1
  obtain ⟨e2, l2, u2⟩ := bE_12_8 imm
  rw [e2]
  generalize imm % 4294967296 / 4096 % 256 = x2 at *
  rw [wraps_u64 (x2 * 4096) (by omega) (by omega)]
  have f2 := fitm 12 8 4096 1044480 rfl rfl l2 u2
  obtain ⟨e3, l3, u3⟩ := bE_20_1 imm
  rw [e3]
  generalize imm % 4294967296 / 1048576 % 2 = x3 at *
  rw [wraps_u64 (x3 * 2147483648) (by omega) (by omega)]
  have f3 := fitm 31 1 2147483648 2147483648 rfl rfl l3 u3
  obtain ⟨g1, q1⟩ := fit_or f0 f1 (by decide) (by decide) (by decide)
  rw [g1]
  obtain ⟨g2, q2⟩ := fit_or q1 f2 (by decide) (by decide) (by decide)
  rw [g2]
  obtain ⟨g3, q3⟩ := fit_or q2 f3 (by decide) (by decide) (by decide)
  rw [g3]
  exact ⟨rfl, q3.cast rfl (by decide)⟩
theorem num_B (imm : Int) : bits .or .u64 (bits .or .u64 (bits .or .u64 (IntKind.u64.wrap (bitsI (IntKind.u64.wrap imm) 1 4 * 256)) (IntKind.u64.wrap (bitsI (IntKind.u64.wrap imm) 5 6 * 33554432))) (IntKind.u64.wrap (bitsI (IntKind.u64.wrap imm) 11 1 * 128))) (IntKind.u64.wrap (bitsI (IntKind.u64.wrap imm) 12 1 * 2147483648)) = imm % 4294967296 / 2 % 16 * 256 + imm % 4294967296 / 32 % 64 * 33554432 + imm % 4294967296 / 2048 % 2 * 128 + imm % 4294967296 / 4096 % 2 * 2147483648 ∧ Fit (imm % 4294967296 / 2 % 16 * 256 + imm % 4294967296 / 32 % 64 * 33554432 + imm % 4294967296 / 2048 % 2 * 128 + imm % 4294967296 / 4096 % 2 * 2147483648) 4261416832 := by
  obtain ⟨e0, l0, u0⟩ := bE_1_4 imm
  rw [e0]
  generalize imm % 4294967296 / 2 % 16 = x0 at *
  rw [wraps_u64 (x0 * 256) (by omega) (by omega)]
  have f0 := fitm 8 4 256 3840 rfl rfl l0 u0
  obtain ⟨e1, l1, u1⟩ := bE_5_6 imm
  rw [e1]
  generalize imm % 4294967296 / 32 % 64 = x1 at *
  rw [wraps_u64 (x1 * 33554432) (by omega) (by omega)]
  have f1 := fitm 25 6 33554432 2113929216 rfl rfl l1 u1
  obtain ⟨e2, l2, u2⟩ := bE_11_1 imm
  rw [e2]
  generalize imm % 4294967296 / 2048 % 2 = x2 at *
  rw [wraps_u64 (x2 * 128) (by omega) (by omega)]
  have f2 := fitm 7 1 128 128 rfl rfl l2 u2
  obtain ⟨e3, l3, u3⟩ := bE_12_1 imm
  rw [e3]
  generalize imm % 4294967296 / 4096 % 2 = x3 at *
  rw [wraps_u64 (x3 * 2147483648) (by omega) (by omega)]
  have f3 := fitm 31 1 2147483648 2147483648 rfl rfl l3 u3
  obtain ⟨g1, q1⟩ := fit_or f0 f1 (by decide) (by decide) (by decide)
  rw [g1]
  obtain ⟨g2, q2⟩ := fit_or q1 f2 (by decide) (by decide) (by decide)
  rw [g2]
  obtain ⟨g3, q3⟩ := fit_or q2 f3 (by decide) (by decide) (by decide)
  rw [g3]
  exact ⟨rfl, q3.cast rfl (by decide)⟩
theorem num_S (imm : Int) : bits .or .u64 (IntKind.u64.wrap (bitsI (IntKind.u64.wrap imm) 0 5 * 128)) (IntKind.u64.wrap (bitsI (IntKind.u64.wrap imm) 5 7 * 33554432)) = imm % 4294967296 % 32 * 128 + imm % 4294967296 / 32 % 128 * 33554432 ∧ Fit (imm % 4294967296 % 32 * 128 + imm % 4294967296 / 32 % 128 * 33554432) 4261416832 := by
  obtain ⟨e0, l0, u0⟩ := bE_0_5 imm
  rw [e0]
  generalize imm % 4294967296 % 32 = x0 at *
  rw [wraps_u64 (x0 * 128) (by omega) (by omega)]
  have f0 := fitm 7 5 128 3968 rfl rfl l0 u0
  obtain ⟨e1, l1, u1⟩ := bE_5_7 imm
  rw [e1]
  generalize imm % 4294967296 / 32 % 128 = x1 at *
  rw [wraps_u64 (x1 * 33554432) (by omega) (by omega)]
  have f1 := fitm 25 7 33554432 4261412864 rfl rfl l1 u1
  obtain ⟨g1, q1⟩ := fit_or f0 f1 (by decide) (by decide) (by decide)
  rw [g1]
  exact ⟨rfl, q1.cast rfl (by decide)⟩
theorem num_I (imm : Int) : IntKind.u64.wrap (bitsI (IntKind.u64.wrap imm) 0 12 * 1048576) = imm % 4294967296 % 4096 * 1048576 ∧ Fit (imm % 4294967296 % 4096 * 1048576) 4293918720 := by
  obtain ⟨e0, l0, u0⟩ := bE_0_12 imm
  rw [e0]
  generalize imm % 4294967296 % 4096 = x0 at *
  rw [wraps_u64 (x0 * 1048576) (by omega) (by omega)]
  have f0 := fitm 20 12 1048576 4293918720 rfl rfl l0 u0
  exact ⟨rfl, f0.cast rfl (by decide)⟩
theorem fields_form {rd rs1 rs2 csr : Int} (a0 : 0 ≤ rd) (a1 : rd < 32) (b0 : 0 ≤ rs1) (b1 : rs1 < 32) (c0 : 0 ≤ rs2) (c1 : rs2 < 32) (d0 : 0 ≤ csr) (d1 : csr < 4096) : fieldsE rd rs1 rs2 csr = bits .or .u64 (bits .or .u64 (bits .or .u64 (rd * 128) (rs1 * 32768)) (rs2 * 1048576)) (csr * 1048576) := by
  unfold fieldsE
  rw [wraps_u64 rd (by omega) (by omega), wraps_u64 rs1 (by omega) (by omega), wraps_u64 rs2 (by omega) (by omega), wraps_u64 csr (by omega) (by omega), wraps_u64 (rd * 128) (by omega) (by omega), wraps_u64 (rs1 * 32768) (by omega) (by omega), wraps_u64 (rs2 * 1048576) (by omega) (by omega), wraps_u64 (csr * 1048576) (by omega) (by omega)]
theorem cls_UE (op : Int) (h0 : 1 ≤ op) (h1 : op ≤ 2) : clsI op = 1 := op_cases (p := fun op => 1 ≤ op ∧ op ≤ 2 → clsI op = 1) (by decide +kernel) (fun op h a => by omega) op ⟨h0, h1⟩
theorem numE_U (op n : Int) (h0 : 1 ≤ op) (h1 : op ≤ 2) : numE op n = IntKind.u64.wrap (bitsI n 12 20 * 4096) := by
  have hf : fmtI op = 85 := op_cases (p := fun op => 1 ≤ op ∧ op ≤ 2 → fmtI op = 85) (by decide +kernel) (fun op h a => by omega) op ⟨h0, h1⟩
  unfold numE
  rw [hf]
  rw [if_pos rfl]
theorem cls_JE (op : Int) (h0 : 3 ≤ op) (h1 : op ≤ 3) : clsI op = 1 := op_cases (p := fun op => 3 ≤ op ∧ op ≤ 3 → clsI op = 1) (by decide +kernel) (fun op h a => by omega) op ⟨h0, h1⟩
theorem numE_J (op n : Int) (h0 : 3 ≤ op) (h1 : op ≤ 3) : numE op n = jumpE n := by
  have hf : fmtI op = 74 := op_cases (p := fun op => 3 ≤ op ∧ op ≤ 3 → fmtI op = 74) (by decide +kernel) (fun op h a => by omega) op ⟨h0, h1⟩
  unfold numE
  rw [hf]
  repeat rw [if_neg (by decide)]
  rw [if_pos rfl]
theorem cls_JrE (op : Int) (h0 : 4 ≤ op) (h1 : op ≤ 4) : clsI op = 1 := op_cases (p := fun op => 4 ≤ op ∧ op ≤ 4 → clsI op = 1) (by decide +kernel) (fun op h a => by omega) op ⟨h0, h1⟩
theorem numE_Jr (op n : Int) (h0 : 4 ≤ op) (h1 : op ≤ 4) : numE op n = IntKind.u64.wrap (bitsI n 0 12 * 1048576) := by
  have hf : ¬ fmtI op = 85 ∧ ¬ fmtI op = 74 ∧ ¬ fmtI op = 66 ∧ ¬ fmtI op = 83 := op_cases (p := fun op => 4 ≤ op ∧ op ≤ 4 → ¬ fmtI op = 85 ∧ ¬ fmtI op = 74 ∧ ¬ fmtI op = 66 ∧ ¬ fmtI op = 83) (by decide +kernel) (fun op h a => by omega) op ⟨h0, h1⟩
  have hc := cls_JrE op h0 h1
  unfold numE
  rw [if_neg hf.1, if_neg hf.2.1, if_neg hf.2.2.1, if_neg hf.2.2.2, if_neg (by omega)]
theorem cls_BE (op : Int) (h0 : 5 ≤ op) (h1 : op ≤ 10) : clsI op = 2 := op_cases (p := fun op => 5 ≤ op ∧ op ≤ 10 → clsI op = 2) (by decide +kernel) (fun op h a => by omega) op ⟨h0, h1⟩
theorem numE_B (op n : Int) (h0 : 5 ≤ op) (h1 : op ≤ 10) : numE op n = branchE n := by
  have hf : fmtI op = 66 := op_cases (p := fun op => 5 ≤ op ∧ op ≤ 10 → fmtI op = 66) (by decide +kernel) (fun op h a => by omega) op ⟨h0, h1⟩
  unfold numE
  rw [hf]
  repeat rw [if_neg (by decide)]
  rw [if_pos rfl]
theorem cls_LE (op : Int) (h0 : 11 ≤ op) (h1 : op ≤ 17) : clsI op = 3 := op_cases (p := fun op => 11 ≤ op ∧ op ≤ 17 → clsI op = 3) (by decide +kernel) (fun op h a => by omega) op ⟨h0, h1⟩
theorem numE_L (op n : Int) (h0 : 11 ≤ op) (h1 : op ≤ 17) : numE op n = IntKind.u64.wrap (bitsI n 0 12 * 1048576) := by
  have hf : ¬ fmtI op = 85 ∧ ¬ fmtI op = 74 ∧ ¬ fmtI op = 66 ∧ ¬ fmtI op = 83 := op_cases (p := fun op => 11 ≤ op ∧ op ≤ 17 → ¬ fmtI op = 85 ∧ ¬ fmtI op = 74 ∧ ¬ fmtI op = 66 ∧ ¬ fmtI op = 83) (by decide +kernel) (fun op h a => by omega) op ⟨h0, h1⟩
  have hc := cls_LE op h0 h1
  unfold numE
  rw [if_neg hf.1, if_neg hf.2.1, if_neg hf.2.2.1, if_neg hf.2.2.2, if_neg (by omega)]
theorem cls_SE (op : Int) (h0 : 18 ≤ op) (h1 : op ≤ 21) : clsI op = 4 := op_cases (p := fun op => 18 ≤ op ∧ op ≤ 21 → clsI op = 4) (by decide +kernel) (fun op h a => by omega) op ⟨h0, h1⟩
theorem numE_S (op n : Int) (h0 : 18 ≤ op) (h1 : op ≤ 21) : numE op n = bits .or .u64 (IntKind.u64.wrap (bitsI n 0 5 * 128)) (IntKind.u64.wrap (bitsI n 5 7 * 33554432)) := by
  have hf : fmtI op = 83 := op_cases (p := fun op => 18 ≤ op ∧ op ≤ 21 → fmtI op = 83) (by decide +kernel) (fun op h a => by omega) op ⟨h0, h1⟩
  unfold numE
  rw [hf]
  repeat rw [if_neg (by decide)]
  rw [if_pos rfl]
theorem cls_IE (op : Int) (h0 : 22 ≤ op) (h1 : op ≤ 27) : clsI op = 5 := op_cases (p := fun op => 22 ≤ op ∧ op ≤ 27 → clsI op = 5) (by decide +kernel) (fun op h a => by omega) op ⟨h0, h1⟩
theorem numE_I (op n : Int) (h0 : 22 ≤ op) (h1 : op ≤ 27) : numE op n = IntKind.u64.wrap (bitsI n 0 12 * 1048576) := by
  have hf : ¬ fmtI op = 85 ∧ ¬ fmtI op = 74 ∧ ¬ fmtI op = 66 ∧ ¬ fmtI op = 83 := op_cases (p := fun op => 22 ≤ op ∧ op ≤ 27 → ¬ fmtI op = 85 ∧ ¬ fmtI op = 74 ∧ ¬ fmtI op = 66 ∧ ¬ fmtI op = 83) (by decide +kernel) (fun op h a => by omega) op ⟨h0, h1⟩
  have hc := cls_IE op h0 h1
  unfold numE
  rw [if_neg hf.1, if_neg hf.2.1, if_neg hf.2.2.1, if_neg hf.2.2.2, if_neg (by omega)]
theorem cls_HE (op : Int) (h0 : 28 ≤ op) (h1 : op ≤ 30) : clsI op = 5 := op_cases (p := fun op => 28 ≤ op ∧ op ≤ 30 → clsI op = 5) (by decide +kernel) (fun op h a => by omega) op ⟨h0, h1⟩
theorem numE_H (op n : Int) (h0 : 28 ≤ op) (h1 : op ≤ 30) : numE op n = IntKind.u64.wrap (bitsI n 0 12 * 1048576) := by
  have hf : ¬ fmtI op = 85 ∧ ¬ fmtI op = 74 ∧ ¬ fmtI op = 66 ∧ ¬ fmtI op = 83 := op_cases (p := fun op => 28 ≤ op ∧ op ≤ 30 → ¬ fmtI op = 85 ∧ ¬ fmtI op = 74 ∧ ¬ fmtI op = 66 ∧ ¬ fmtI op = 83) (by decide +kernel) (fun op h a => by omega) op ⟨h0, h1⟩
  have hc := cls_HE op h0 h1
  unfold numE
  rw [if_neg hf.1, if_neg hf.2.1, if_neg hf.2.2.1, if_neg hf.2.2.2, if_neg (by omega)]
theorem cls_IwE (op : Int) (h0 : 31 ≤ op) (h1 : op ≤ 31) : clsI op = 5 := op_cases (p := fun op => 31 ≤ op ∧ op ≤ 31 → clsI op = 5) (by decide +kernel) (fun op h a => by omega) op ⟨h0, h1⟩
theorem numE_Iw (op n : Int) (h0 : 31 ≤ op) (h1 : op ≤ 31) : numE op n = IntKind.u64.wrap (bitsI n 0 12 * 1048576) := by
  have hf : ¬ fmtI op = 85 ∧ ¬ fmtI op = 74 ∧ ¬ fmtI op = 66 ∧ ¬ fmtI op = 83 := op_cases (p := fun op => 31 ≤ op ∧ op ≤ 31 → ¬ fmtI op = 85 ∧ ¬ fmtI op = 74 ∧ ¬ fmtI op = 66 ∧ ¬ fmtI op = 83) (by decide +kernel) (fun op h a => by omega) op ⟨h0, h1⟩
  have hc := cls_IwE op h0 h1
  unfold numE
  rw [if_neg hf.1, if_neg hf.2.1, if_neg hf.2.2.1, if_neg hf.2.2.2, if_neg (by omega)]
theorem cls_HwE (op : Int) (h0 : 32 ≤ op) (h1 : op ≤ 34) : clsI op = 5 := op_cases (p := fun op => 32 ≤ op ∧ op ≤ 34 → clsI op = 5) (by decide +kernel) (fun op h a => by omega) op ⟨h0, h1⟩
theorem numE_Hw (op n : Int) (h0 : 32 ≤ op) (h1 : op ≤ 34) : numE op n = IntKind.u64.wrap (bitsI n 0 12 * 1048576) := by
  have hf : ¬ fmtI op = 85 ∧ ¬ fmtI op = 74 ∧ ¬ fmtI op = 66 ∧ ¬ fmtI op = 83 := op_cases (p := fun op => 32 ≤ op ∧ op ≤ 34 → ¬ fmtI op = 85 ∧ ¬ fmtI op = 74 ∧ ¬ fmtI op = 66 ∧ ¬ fmtI op = 83) (by decide +kernel) (fun op h a => by omega) op ⟨h0, h1⟩
  have hc := cls_HwE op h0 h1
  unfold numE
  rw [if_neg hf.1, if_neg hf.2.1, if_neg hf.2.2.1, if_neg hf.2.2.2, if_neg (by omega)]
theorem cls_RE (op : Int) (h0 : 35 ≤ op) (h1 : op ≤ 49) : clsI op = 6 := op_cases (p := fun op => 35 ≤ op ∧ op ≤ 49 → clsI op = 6) (by decide +kernel) (fun op h a => by omega) op ⟨h0, h1⟩
theorem numE_R (op n : Int) (h0 : 35 ≤ op) (h1 : op ≤ 49) : numE op n = IntKind.u64.wrap (bitsI n 0 12 * 1048576) := by
  have hf : ¬ fmtI op = 85 ∧ ¬ fmtI op = 74 ∧ ¬ fmtI op = 66 ∧ ¬ fmtI op = 83 := op_cases (p := fun op => 35 ≤ op ∧ op ≤ 49 → ¬ fmtI op = 85 ∧ ¬ fmtI op = 74 ∧ ¬ fmtI op = 66 ∧ ¬ fmtI op = 83) (by decide +kernel) (fun op h a => by omega) op ⟨h0, h1⟩
  have hc := cls_RE op h0 h1
  unfold numE
  rw [if_neg hf.1, if_neg hf.2.1, if_neg hf.2.2.1, if_neg hf.2.2.2, if_neg (by omega)]
theorem cls_FaE (op : Int) (h0 : 50 ≤ op) (h1 : op ≤ 53) : (clsI op = 7 ∨ clsI op = 8 ∨ clsI op = 10) := op_cases (p := fun op => 50 ≤ op ∧ op ≤ 53 → (clsI op = 7 ∨ clsI op = 8 ∨ clsI op = 10)) (by decide +kernel) (fun op h a => by omega) op ⟨h0, h1⟩
theorem numE_Fa (op n : Int) (h0 : 50 ≤ op) (h1 : op ≤ 53) : numE op n = IntKind.u64.wrap (bitsI n 0 12 * 1048576) := by
  have hf : ¬ fmtI op = 85 ∧ ¬ fmtI op = 74 ∧ ¬ fmtI op = 66 ∧ ¬ fmtI op = 83 := op_cases (p := fun op => 50 ≤ op ∧ op ≤ 53 → ¬ fmtI op = 85 ∧ ¬ fmtI op = 74 ∧ ¬ fmtI op = 66 ∧ ¬ fmtI op = 83) (by decide +kernel) (fun op h a => by omega) op ⟨h0, h1⟩
  have hc := cls_FaE op h0 h1
  unfold numE
  rw [if_neg hf.1, if_neg hf.2.1, if_neg hf.2.2.1, if_neg hf.2.2.2, if_neg (by omega)]
theorem cls_CE (op : Int) (h0 : 54 ≤ op) (h1 : op ≤ 56) : clsI op = 9 := op_cases (p := fun op => 54 ≤ op ∧ op ≤ 56 → clsI op = 9) (by decide +kernel) (fun op h a => by omega) op ⟨h0, h1⟩
theorem numE_C (op n : Int) (h0 : 54 ≤ op) (h1 : op ≤ 56) : numE op n = IntKind.u64.wrap (n * 32768) := by
  have hf : ¬ fmtI op = 85 ∧ ¬ fmtI op = 74 ∧ ¬ fmtI op = 66 ∧ ¬ fmtI op = 83 := op_cases (p := fun op => 54 ≤ op ∧ op ≤ 56 → ¬ fmtI op = 85 ∧ ¬ fmtI op = 74 ∧ ¬ fmtI op = 66 ∧ ¬ fmtI op = 83) (by decide +kernel) (fun op h a => by omega) op ⟨h0, h1⟩
  have hc := cls_CE op h0 h1
  unfold numE
  rw [if_neg hf.1, if_neg hf.2.1, if_neg hf.2.2.1, if_neg hf.2.2.2, if_pos hc]
theorem cls_CiE (op : Int) (h0 : 57 ≤ op) (h1 : op ≤ 59) : clsI op = 9 := op_cases (p := fun op => 57 ≤ op ∧ op ≤ 59 → clsI op = 9) (by decide +kernel) (fun op h a => by omega) op ⟨h0, h1⟩
theorem numE_Ci (op n : Int) (h0 : 57 ≤ op) (h1 : op ≤ 59) : numE op n = IntKind.u64.wrap (n * 32768) := by
  have hf : ¬ fmtI op = 85 ∧ ¬ fmtI op = 74 ∧ ¬ fmtI op = 66 ∧ ¬ fmtI op = 83 := op_cases (p := fun op => 57 ≤ op ∧ op ≤ 59 → ¬ fmtI op = 85 ∧ ¬ fmtI op = 74 ∧ ¬ fmtI op = 66 ∧ ¬ fmtI op = 83) (by decide +kernel) (fun op h a => by omega) op ⟨h0, h1⟩
  have hc := cls_CiE op h0 h1
  unfold numE
  rw [if_neg hf.1, if_neg hf.2.1, if_neg hf.2.2.1, if_neg hf.2.2.2, if_pos hc]
theorem cls_FbE (op : Int) (h0 : 60 ≤ op) (h1 : op ≤ 62) : (clsI op = 7 ∨ clsI op = 8 ∨ clsI op = 10) := op_cases (p := fun op => 60 ≤ op ∧ op ≤ 62 → (clsI op = 7 ∨ clsI op = 8 ∨ clsI op = 10)) (by decide +kernel) (fun op h a => by omega) op ⟨h0, h1⟩
theorem numE_Fb (op n : Int) (h0 : 60 ≤ op) (h1 : op ≤ 62) : numE op n = IntKind.u64.wrap (bitsI n 0 12 * 1048576) := by
  have hf : ¬ fmtI op = 85 ∧ ¬ fmtI op = 74 ∧ ¬ fmtI op = 66 ∧ ¬ fmtI op = 83 := op_cases (p := fun op => 60 ≤ op ∧ op ≤ 62 → ¬ fmtI op = 85 ∧ ¬ fmtI op = 74 ∧ ¬ fmtI op = 66 ∧ ¬ fmtI op = 83) (by decide +kernel) (fun op h a => by omega) op ⟨h0, h1⟩
  have hc := cls_FbE op h0 h1
  unfold numE
  rw [if_neg hf.1, if_neg hf.2.1, if_neg hf.2.2.1, if_neg hf.2.2.2, if_neg (by omega)]
theorem cls_VE (op : Int) (h0 : 63 ≤ op) (h1 : op ≤ 65) : clsI op = 11 := op_cases (p := fun op => 63 ≤ op ∧ op ≤ 65 → clsI op = 11) (by decide +kernel) (fun op h a => by omega) op ⟨h0, h1⟩
theorem numE_V (op n : Int) (h0 : 63 ≤ op) (h1 : op ≤ 65) : numE op n = IntKind.u64.wrap (bitsI n 0 12 * 1048576) := by
  have hf : ¬ fmtI op = 85 ∧ ¬ fmtI op = 74 ∧ ¬ fmtI op = 66 ∧ ¬ fmtI op = 83 := op_cases (p := fun op => 63 ≤ op ∧ op ≤ 65 → ¬ fmtI op = 85 ∧ ¬ fmtI op = 74 ∧ ¬ fmtI op = 66 ∧ ¬ fmtI op = 83) (by decide +kernel) (fun op h a => by omega) op ⟨h0, h1⟩
  have hc := cls_VE op h0 h1
  unfold numE
  rw [if_neg hf.1, if_neg hf.2.1, if_neg hf.2.2.1, if_neg hf.2.2.2, if_neg (by omega)]
theorem cls_GE (op : Int) (h0 : 66 ≤ op) (h1 : op ≤ 67) : clsI op = 12 := op_cases (p := fun op => 66 ≤ op ∧ op ≤ 67 → clsI op = 12) (by decide +kernel) (fun op h a => by omega) op ⟨h0, h1⟩
theorem numE_G (op n : Int) (h0 : 66 ≤ op) (h1 : op ≤ 67) : numE op n = IntKind.u64.wrap (bitsI n 0 12 * 1048576) := by
  have hf : ¬ fmtI op = 85 ∧ ¬ fmtI op = 74 ∧ ¬ fmtI op = 66 ∧ ¬ fmtI op = 83 := op_cases (p := fun op => 66 ≤ op ∧ op ≤ 67 → ¬ fmtI op = 85 ∧ ¬ fmtI op = 74 ∧ ¬ fmtI op = 66 ∧ ¬ fmtI op = 83) (by decide +kernel) (fun op h a => by omega) op ⟨h0, h1⟩
  have hc := cls_GE op h0 h1
  unfold numE
  rw [if_neg hf.1, if_neg hf.2.1, if_neg hf.2.2.1, if_neg hf.2.2.2, if_neg (by omega)]
theorem cls_XE (op : Int) (h0 : 68 ≤ op) (h1 : op ≤ 68) : clsI op = 12 := op_cases (p := fun op => 68 ≤ op ∧ op ≤ 68 → clsI op = 12) (by decide +kernel) (fun op h a => by omega) op ⟨h0, h1⟩
theorem numE_X (op n : Int) (h0 : 68 ≤ op) (h1 : op ≤ 68) : numE op n = IntKind.u64.wrap (bitsI n 0 12 * 1048576) := by
  have hf : ¬ fmtI op = 85 ∧ ¬ fmtI op = 74 ∧ ¬ fmtI op = 66 ∧ ¬ fmtI op = 83 := op_cases (p := fun op => 68 ≤ op ∧ op ≤ 68 → ¬ fmtI op = 85 ∧ ¬ fmtI op = 74 ∧ ¬ fmtI op = 66 ∧ ¬ fmtI op = 83) (by decide +kernel) (fun op h a => by omega) op ⟨h0, h1⟩
  have hc := cls_XE op h0 h1
  unfold numE
  rw [if_neg hf.1, if_neg hf.2.1, if_neg hf.2.2.1, if_neg hf.2.2.2, if_neg (by omega)]
theorem cls_GsE (op : Int) (h0 : 69 ≤ op) (h1 : op ≤ 69) : clsI op = 12 := op_cases (p := fun op => 69 ≤ op ∧ op ≤ 69 → clsI op = 12) (by decide +kernel) (fun op h a => by omega) op ⟨h0, h1⟩
theorem numE_Gs (op n : Int) (h0 : 69 ≤ op) (h1 : op ≤ 69) : numE op n = IntKind.u64.wrap (bitsI n 0 12 * 1048576) := by
  have hf : ¬ fmtI op = 85 ∧ ¬ fmtI op = 74 ∧ ¬ fmtI op = 66 ∧ ¬ fmtI op = 83 := op_cases (p := fun op => 69 ≤ op ∧ op ≤ 69 → ¬ fmtI op = 85 ∧ ¬ fmtI op = 74 ∧ ¬ fmtI op = 66 ∧ ¬ fmtI op = 83) (by decide +kernel) (fun op h a => by omega) op ⟨h0, h1⟩
  have hc := cls_GsE op h0 h1
  unfold numE
  rw [if_neg hf.1, if_neg hf.2.1, if_neg hf.2.2.1, if_neg hf.2.2.2, if_neg (by omega)]
set_option maxHeartbeats 1000000 in
theorem sum_U (op rd rs1 rs2 imm csr : Int) (h0 : 1 ≤ op) (h1 : op ≤ 2) (h : isB op rd rs1 rs2 imm csr = true) : IntKind.u32.wrap (bits .or .u64 (bits .or .u64 (headE op) (fieldsE rd rs1 rs2 csr)) (numE op (IntKind.u64.wrap imm))) = encI op rd rs1 rs2 (imm % 4294967296) csr := by
  have hh : headE op = opcI op ∧ 0 ≤ headE op ∧ (headE op).toNat &&& 55 = (headE op).toNat := op_cases (p := fun op => 1 ≤ op ∧ op ≤ 2 → headE op = opcI op ∧ 0 ≤ headE op ∧ (headE op).toNat &&& 55 = (headE op).toNat) (by decide +kernel) (fun op h a => by omega) op ⟨h0, h1⟩
  obtain ⟨hh, hh0, hh1⟩ := hh
  have he : ∀ n, encI op rd rs1 rs2 n csr = opcI op + rd * 128 + n / 4096 * 4096 := fun n => by
    have hc := cls_UE op h0 h1
    unfold encI
    repeat rw [if_neg (by omega)]
    rw [if_pos (by omega)]
  have hm : numE op (IntKind.u64.wrap imm) = _ := numE_U op _ h0 h1
  obtain ⟨d0, d1, d2, d3, d4, d5, d6, d7⟩ := is_bounds h
  rw [fields_form d0 d1 d2 d3 d4 d5 d6 d7, hm, he]
  simp only [isB, Bool.and_eq_true] at h
  obtain ⟨_, i1, i2, i3, i4, i5⟩ := h
  rw [show hasRs1 op = false from decide_eq_false (by omega)] at i2
  obtain rfl : rs1 = 0 := regno i2
  rw [show hasRs2 op = false from decide_eq_false (by omega)] at i3
  obtain rfl : rs2 = 0 := regno i3
  rw [show hasCsr op = false from decide_eq_false (by omega)] at i4
  obtain rfl : csr = 0 := csrno i4
  obtain ⟨e, f⟩ := num_U imm
  rw [e]
  obtain ⟨s, s0, s1⟩ := enc_sum (fit_of hh0 hh1) (fitm 7 5 128 3968 rfl rfl d0 d1) (fit_z 32768) (fit_z 1048576) (fit_z 1048576) f (by decide)
  rw [s, IntKind.wrap_u32, Int.emod_eq_of_lt s0 s1, hh]
  clear s s0 s1 hh hh0 hh1 hm he
  omega
set_option maxHeartbeats 1000000 in
theorem sum_J (op rd rs1 rs2 imm csr : Int) (h0 : 3 ≤ op) (h1 : op ≤ 3) (h : isB op rd rs1 rs2 imm csr = true) : IntKind.u32.wrap (bits .or .u64 (bits .or .u64 (headE op) (fieldsE rd rs1 rs2 csr)) (numE op (IntKind.u64.wrap imm))) = encI op rd rs1 rs2 (imm % 4294967296) csr := by
  have hh : headE op = opcI op ∧ 0 ≤ headE op ∧ (headE op).toNat &&& 111 = (headE op).toNat := op_cases (p := fun op => 3 ≤ op ∧ op ≤ 3 → headE op = opcI op ∧ 0 ≤ headE op ∧ (headE op).toNat &&& 111 = (headE op).toNat) (by decide +kernel) (fun op h a => by omega) op ⟨h0, h1⟩
  obtain ⟨hh, hh0, hh1⟩ := hh
  have he : ∀ n, encI op rd rs1 rs2 n csr = opcI op + rd * 128 + n / 1048576 % 2 * 2147483648 + n / 4096 % 256 * 4096 + n / 2048 % 2 * 1048576 + n / 2 % 1024 * 2097152 := fun n => by
    have hc := cls_JE op h0 h1
    unfold encI
    repeat rw [if_neg (by omega)]
    rw [if_pos (by omega)]
  have hm : numE op (IntKind.u64.wrap imm) = _ := numE_J op _ h0 h1
  obtain ⟨d0, d1, d2, d3, d4, d5, d6, d7⟩ := is_bounds h
  rw [fields_form d0 d1 d2 d3 d4 d5 d6 d7, hm, he]
  simp only [isB, Bool.and_eq_true] at h
  obtain ⟨_, i1, i2, i3, i4, i5⟩ := h
  rw [show hasRs1 op = false from decide_eq_false (by omega)] at i2
  obtain rfl : rs1 = 0 := regno i2
  rw [show hasRs2 op = false from decide_eq_false (by omega)] at i3
  obtain rfl : rs2 = 0 := regno i3
  rw [show hasCsr op = false from decide_eq_false (by omega)] at i4
  obtain rfl : csr = 0 := csrno i4
  obtain ⟨e, f⟩ := num_J imm
  change IntKind.u32.wrap (bits .or .u64 _ (jumpE _)) = _
  unfold jumpE
  rw [e]
  obtain ⟨s, s0, s1⟩ := enc_sum (fit_of hh0 hh1) (fitm 7 5 128 3968 rfl rfl d0 d1) (fit_z 32768) (fit_z 1048576) (fit_z 1048576) f (by decide)
  rw [s, IntKind.wrap_u32, Int.emod_eq_of_lt s0 s1, hh]
  clear s s0 s1 hh hh0 hh1 hm he
  generalize imm % 4294967296 / 2 % 1024 = x1_10
  generalize imm % 4294967296 / 2048 % 2 = x11_1
  generalize imm % 4294967296 / 4096 % 256 = x12_8
  generalize imm % 4294967296 / 1048576 % 2 = x20_1
  omega
set_option maxHeartbeats 1000000 in
theorem sum_Jr (op rd rs1 rs2 imm csr : Int) (h0 : 4 ≤ op) (h1 : op ≤ 4) (h : isB op rd rs1 rs2 imm csr = true) : IntKind.u32.wrap (bits .or .u64 (bits .or .u64 (headE op) (fieldsE rd rs1 rs2 csr)) (numE op (IntKind.u64.wrap imm))) = encI op rd rs1 rs2 (imm % 4294967296) csr := by
  have hh : headE op = opcI op + f3I op * 4096 ∧ 0 ≤ headE op ∧ (headE op).toNat &&& 103 = (headE op).toNat := op_cases (p := fun op => 4 ≤ op ∧ op ≤ 4 → headE op = opcI op + f3I op * 4096 ∧ 0 ≤ headE op ∧ (headE op).toNat &&& 103 = (headE op).toNat) (by decide +kernel) (fun op h a => by omega) op ⟨h0, h1⟩
  obtain ⟨hh, hh0, hh1⟩ := hh
  have he : ∀ n, encI op rd rs1 rs2 n csr = opcI op + f3I op * 4096 + rs1 * 32768 + rd * 128 + n % 4096 * 1048576 := fun n => by
    have hc := cls_JrE op h0 h1
    unfold encI
    repeat rw [if_neg (by omega)]
  have hm : numE op (IntKind.u64.wrap imm) = _ := numE_Jr op _ h0 h1
  obtain ⟨d0, d1, d2, d3, d4, d5, d6, d7⟩ := is_bounds h
  rw [fields_form d0 d1 d2 d3 d4 d5 d6 d7, hm, he]
  simp only [isB, Bool.and_eq_true] at h
  obtain ⟨_, i1, i2, i3, i4, i5⟩ := h
  rw [show hasRs2 op = false from decide_eq_false (by omega)] at i3
  obtain rfl : rs2 = 0 := regno i3
  rw [show hasCsr op = false from decide_eq_false (by omega)] at i4
  obtain rfl : csr = 0 := csrno i4
  obtain ⟨e, f⟩ := num_I imm
  rw [e]
  obtain ⟨s, s0, s1⟩ := enc_sum (fit_of hh0 hh1) (fitm 7 5 128 3968 rfl rfl d0 d1) (fitm 15 5 32768 1015808 rfl rfl d2 d3) (fit_z 1048576) (fit_z 1048576) f (by decide)
  rw [s, IntKind.wrap_u32, Int.emod_eq_of_lt s0 s1, hh]
  clear s s0 s1 hh hh0 hh1 hm he
  generalize imm % 4294967296 % 4096 = x0_12
  omega
set_option maxHeartbeats 1000000 in
theorem sum_B (op rd rs1 rs2 imm csr : Int) (h0 : 5 ≤ op) (h1 : op ≤ 10) (h : isB op rd rs1 rs2 imm csr = true) : IntKind.u32.wrap (bits .or .u64 (bits .or .u64 (headE op) (fieldsE rd rs1 rs2 csr)) (numE op (IntKind.u64.wrap imm))) = encI op rd rs1 rs2 (imm % 4294967296) csr := by
  have hh : headE op = opcI op + f3I op * 4096 ∧ 0 ≤ headE op ∧ (headE op).toNat &&& 28771 = (headE op).toNat := op_cases (p := fun op => 5 ≤ op ∧ op ≤ 10 → headE op = opcI op + f3I op * 4096 ∧ 0 ≤ headE op ∧ (headE op).toNat &&& 28771 = (headE op).toNat) (by decide +kernel) (fun op h a => by omega) op ⟨h0, h1⟩
  obtain ⟨hh, hh0, hh1⟩ := hh
  have he : ∀ n, encI op rd rs1 rs2 n csr = opcI op + f3I op * 4096 + rs1 * 32768 + rs2 * 1048576 + n / 4096 % 2 * 2147483648 + n / 2048 % 2 * 128 + n / 32 % 64 * 33554432 + n / 2 % 16 * 256 := fun n => by
    have hc := cls_BE op h0 h1
    unfold encI
    repeat rw [if_neg (by omega)]
    rw [if_pos (by omega)]
  have hm : numE op (IntKind.u64.wrap imm) = _ := numE_B op _ h0 h1
  obtain ⟨d0, d1, d2, d3, d4, d5, d6, d7⟩ := is_bounds h
  rw [fields_form d0 d1 d2 d3 d4 d5 d6 d7, hm, he]
  simp only [isB, Bool.and_eq_true] at h
  obtain ⟨_, i1, i2, i3, i4, i5⟩ := h
  rw [show hasRd op = false from decide_eq_false (by omega)] at i1
  obtain rfl : rd = 0 := regno i1
  rw [show hasCsr op = false from decide_eq_false (by omega)] at i4
  obtain rfl : csr = 0 := csrno i4
  obtain ⟨e, f⟩ := num_B imm
  change IntKind.u32.wrap (bits .or .u64 _ (branchE _)) = _
  unfold branchE
  rw [e]
  obtain ⟨s, s0, s1⟩ := enc_sum (fit_of hh0 hh1) (fit_z 128) (fitm 15 5 32768 1015808 rfl rfl d2 d3) (fitm 20 5 1048576 32505856 rfl rfl d4 d5) (fit_z 1048576) f (by decide)
  rw [s, IntKind.wrap_u32, Int.emod_eq_of_lt s0 s1, hh]
  clear s s0 s1 hh hh0 hh1 hm he
  generalize imm % 4294967296 / 2 % 16 = x1_4
  generalize imm % 4294967296 / 32 % 64 = x5_6
  generalize imm % 4294967296 / 2048 % 2 = x11_1
  generalize imm % 4294967296 / 4096 % 2 = x12_1
  omega
set_option maxHeartbeats 1000000 in
theorem sum_L (op rd rs1 rs2 imm csr : Int) (h0 : 11 ≤ op) (h1 : op ≤ 17) (h : isB op rd rs1 rs2 imm csr = true) : IntKind.u32.wrap (bits .or .u64 (bits .or .u64 (headE op) (fieldsE rd rs1 rs2 csr)) (numE op (IntKind.u64.wrap imm))) = encI op rd rs1 rs2 (imm % 4294967296) csr := by
  have hh : headE op = opcI op + f3I op * 4096 ∧ 0 ≤ headE op ∧ (headE op).toNat &&& 28675 = (headE op).toNat := op_cases (p := fun op => 11 ≤ op ∧ op ≤ 17 → headE op = opcI op + f3I op * 4096 ∧ 0 ≤ headE op ∧ (headE op).toNat &&& 28675 = (headE op).toNat) (by decide +kernel) (fun op h a => by omega) op ⟨h0, h1⟩
  obtain ⟨hh, hh0, hh1⟩ := hh
  have he : ∀ n, encI op rd rs1 rs2 n csr = opcI op + f3I op * 4096 + rs1 * 32768 + rd * 128 + n % 4096 * 1048576 := fun n => by
    have hc := cls_LE op h0 h1
    unfold encI
    repeat rw [if_neg (by omega)]
  have hm : numE op (IntKind.u64.wrap imm) = _ := numE_L op _ h0 h1
  obtain ⟨d0, d1, d2, d3, d4, d5, d6, d7⟩ := is_bounds h
  rw [fields_form d0 d1 d2 d3 d4 d5 d6 d7, hm, he]
  simp only [isB, Bool.and_eq_true] at h
  obtain ⟨_, i1, i2, i3, i4, i5⟩ := h
  rw [show hasRs2 op = false from decide_eq_false (by omega)] at i3
  obtain rfl : rs2 = 0 := regno i3
  rw [show hasCsr op = false from decide_eq_false (by omega)] at i4
  obtain rfl : csr = 0 := csrno i4
  obtain ⟨e, f⟩ := num_I imm
  rw [e]
  obtain ⟨s, s0, s1⟩ := enc_sum (fit_of hh0 hh1) (fitm 7 5 128 3968 rfl rfl d0 d1) (fitm 15 5 32768 1015808 rfl rfl d2 d3) (fit_z 1048576) (fit_z 1048576) f (by decide)
  rw [s, IntKind.wrap_u32, Int.emod_eq_of_lt s0 s1, hh]
  clear s s0 s1 hh hh0 hh1 hm he
  generalize imm % 4294967296 % 4096 = x0_12
  omega
set_option maxHeartbeats 1000000 in
theorem sum_S (op rd rs1 rs2 imm csr : Int) (h0 : 18 ≤ op) (h1 : op ≤ 21) (h : isB op rd rs1 rs2 imm csr = true) : IntKind.u32.wrap (bits .or .u64 (bits .or .u64 (headE op) (fieldsE rd rs1 rs2 csr)) (numE op (IntKind.u64.wrap imm))) = encI op rd rs1 rs2 (imm % 4294967296) csr := by
  have hh : headE op = opcI op + f3I op * 4096 ∧ 0 ≤ headE op ∧ (headE op).toNat &&& 12323 = (headE op).toNat := op_cases (p := fun op => 18 ≤ op ∧ op ≤ 21 → headE op = opcI op + f3I op * 4096 ∧ 0 ≤ headE op ∧ (headE op).toNat &&& 12323 = (headE op).toNat) (by decide +kernel) (fun op h a => by omega) op ⟨h0, h1⟩
  obtain ⟨hh, hh0, hh1⟩ := hh
  have he : ∀ n, encI op rd rs1 rs2 n csr = opcI op + f3I op * 4096 + rs1 * 32768 + rs2 * 1048576 + n / 32 % 128 * 33554432 + n % 32 * 128 := fun n => by
    have hc := cls_SE op h0 h1
    unfold encI
    repeat rw [if_neg (by omega)]
    rw [if_pos (by omega)]
  have hm : numE op (IntKind.u64.wrap imm) = _ := numE_S op _ h0 h1
  obtain ⟨d0, d1, d2, d3, d4, d5, d6, d7⟩ := is_bounds h
  rw [fields_form d0 d1 d2 d3 d4 d5 d6 d7, hm, he]
  simp only [isB, Bool.and_eq_true] at h
  obtain ⟨_, i1, i2, i3, i4, i5⟩ := h
  rw [show hasRd op = false from decide_eq_false (by omega)] at i1
  obtain rfl : rd = 0 := regno i1
  rw [show hasCsr op = false from decide_eq_false (by omega)] at i4
  obtain rfl : csr = 0 := csrno i4
  obtain ⟨e, f⟩ := num_S imm
  rw [e]
  obtain ⟨s, s0, s1⟩ := enc_sum (fit_of hh0 hh1) (fit_z 128) (fitm 15 5 32768 1015808 rfl rfl d2 d3) (fitm 20 5 1048576 32505856 rfl rfl d4 d5) (fit_z 1048576) f (by decide)
  rw [s, IntKind.wrap_u32, Int.emod_eq_of_lt s0 s1, hh]
  clear s s0 s1 hh hh0 hh1 hm he
  generalize imm % 4294967296 % 32 = x0_5
  generalize imm % 4294967296 / 32 % 128 = x5_7
  omega
set_option maxHeartbeats 1000000 in
theorem sum_I (op rd rs1 rs2 imm csr : Int) (h0 : 22 ≤ op) (h1 : op ≤ 27) (h : isB op rd rs1 rs2 imm csr = true) : IntKind.u32.wrap (bits .or .u64 (bits .or .u64 (headE op) (fieldsE rd rs1 rs2 csr)) (numE op (IntKind.u64.wrap imm))) = encI op rd rs1 rs2 (imm % 4294967296) csr := by
  have hh : headE op = opcI op + f3I op * 4096 ∧ 0 ≤ headE op ∧ (headE op).toNat &&& 28691 = (headE op).toNat := op_cases (p := fun op => 22 ≤ op ∧ op ≤ 27 → headE op = opcI op + f3I op * 4096 ∧ 0 ≤ headE op ∧ (headE op).toNat &&& 28691 = (headE op).toNat) (by decide +kernel) (fun op h a => by omega) op ⟨h0, h1⟩
  obtain ⟨hh, hh0, hh1⟩ := hh
  have he : ∀ n, encI op rd rs1 rs2 n csr = opcI op + f3I op * 4096 + rs1 * 32768 + rd * 128 + n % 4096 * 1048576 := fun n => by
    have hc := cls_IE op h0 h1
    unfold encI
    repeat rw [if_neg (by omega)]
  have hm : numE op (IntKind.u64.wrap imm) = _ := numE_I op _ h0 h1
  obtain ⟨d0, d1, d2, d3, d4, d5, d6, d7⟩ := is_bounds h
  rw [fields_form d0 d1 d2 d3 d4 d5 d6 d7, hm, he]
  simp only [isB, Bool.and_eq_true] at h
  obtain ⟨_, i1, i2, i3, i4, i5⟩ := h
  rw [show hasRs2 op = false from decide_eq_false (by omega)] at i3
  obtain rfl : rs2 = 0 := regno i3
  rw [show hasCsr op = false from decide_eq_false (by omega)] at i4
  obtain rfl : csr = 0 := csrno i4
  obtain ⟨e, f⟩ := num_I imm
  rw [e]
  obtain ⟨s, s0, s1⟩ := enc_sum (fit_of hh0 hh1) (fitm 7 5 128 3968 rfl rfl d0 d1) (fitm 15 5 32768 1015808 rfl rfl d2 d3) (fit_z 1048576) (fit_z 1048576) f (by decide)
  rw [s, IntKind.wrap_u32, Int.emod_eq_of_lt s0 s1, hh]
  clear s s0 s1 hh hh0 hh1 hm he
  generalize imm % 4294967296 % 4096 = x0_12
  omega
set_option maxHeartbeats 1000000 in
theorem sum_H (op rd rs1 rs2 imm csr : Int) (h0 : 28 ≤ op) (h1 : op ≤ 30) (h : isB op rd rs1 rs2 imm csr = true) : IntKind.u32.wrap (bits .or .u64 (bits .or .u64 (headE op) (fieldsE rd rs1 rs2 csr)) (numE op (IntKind.u64.wrap imm))) = encI op rd rs1 rs2 (imm % 4294967296) csr := by
  have hh : headE op = opcI op + f3I op * 4096 + f7I op * 33554432 ∧ 0 ≤ headE op ∧ (headE op).toNat &&& 1073762323 = (headE op).toNat := op_cases (p := fun op => 28 ≤ op ∧ op ≤ 30 → headE op = opcI op + f3I op * 4096 + f7I op * 33554432 ∧ 0 ≤ headE op ∧ (headE op).toNat &&& 1073762323 = (headE op).toNat) (by decide +kernel) (fun op h a => by omega) op ⟨h0, h1⟩
  obtain ⟨hh, hh0, hh1⟩ := hh
  have he : ∀ n, encI op rd rs1 rs2 n csr = opcI op + f3I op * 4096 + rs1 * 32768 + rd * 128 + n % 64 * 1048576 + f7I op * 33554432 := fun n => by
    have hc := cls_HE op h0 h1
    unfold encI
    repeat rw [if_neg (by omega)]
    rw [if_pos (by omega)]
  have hm : numE op (IntKind.u64.wrap imm) = _ := numE_H op _ h0 h1
  obtain ⟨d0, d1, d2, d3, d4, d5, d6, d7⟩ := is_bounds h
  rw [fields_form d0 d1 d2 d3 d4 d5 d6 d7, hm, he]
  simp only [isB, Bool.and_eq_true] at h
  obtain ⟨_, i1, i2, i3, i4, i5⟩ := h
  rw [show hasRs2 op = false from decide_eq_false (by omega)] at i3
  obtain rfl : rs2 = 0 := regno i3
  rw [show hasCsr op = false from decide_eq_false (by omega)] at i4
  obtain rfl : csr = 0 := csrno i4
  rw [immB, show hasNum op = true from decide_eq_true (by omega), if_pos rfl, numB] at i5
  have hr : 0 ≤ imm ∧ imm < 64 := by
    have hc := cls_HE op h0 h1
    rw [if_neg (by omega), if_neg (by omega), if_neg (by omega), if_pos (by omega)] at i5
    simp [withinB] at i5
    omega
  obtain ⟨e, f⟩ := num_I imm
  rw [e]
  have ex : imm % 4294967296 % 4096 = imm := by omega
  have ey : imm % 4294967296 % 64 = imm := by omega
  rw [ex, ey]
  clear e f ex ey
  have f := fitm 20 6 1048576 66060288 rfl rfl hr.1 (by omega : imm < 2 ^ 6)
  obtain ⟨s, s0, s1⟩ := enc_sum (fit_of hh0 hh1) (fitm 7 5 128 3968 rfl rfl d0 d1) (fitm 15 5 32768 1015808 rfl rfl d2 d3) (fit_z 1048576) (fit_z 1048576) f (by decide)
  rw [s, IntKind.wrap_u32, Int.emod_eq_of_lt s0 s1, hh]
  clear s s0 s1 hh hh0 hh1 hm he
  omega
set_option maxHeartbeats 1000000 in
theorem sum_Iw (op rd rs1 rs2 imm csr : Int) (h0 : 31 ≤ op) (h1 : op ≤ 31) (h : isB op rd rs1 rs2 imm csr = true) : IntKind.u32.wrap (bits .or .u64 (bits .or .u64 (headE op) (fieldsE rd rs1 rs2 csr)) (numE op (IntKind.u64.wrap imm))) = encI op rd rs1 rs2 (imm % 4294967296) csr := by
  have hh : headE op = opcI op + f3I op * 4096 ∧ 0 ≤ headE op ∧ (headE op).toNat &&& 27 = (headE op).toNat := op_cases (p := fun op => 31 ≤ op ∧ op ≤ 31 → headE op = opcI op + f3I op * 4096 ∧ 0 ≤ headE op ∧ (headE op).toNat &&& 27 = (headE op).toNat) (by decide +kernel) (fun op h a => by omega) op ⟨h0, h1⟩
  obtain ⟨hh, hh0, hh1⟩ := hh
  have he : ∀ n, encI op rd rs1 rs2 n csr = opcI op + f3I op * 4096 + rs1 * 32768 + rd * 128 + n % 4096 * 1048576 := fun n => by
    have hc := cls_IwE op h0 h1
    unfold encI
    repeat rw [if_neg (by omega)]
  have hm : numE op (IntKind.u64.wrap imm) = _ := numE_Iw op _ h0 h1
  obtain ⟨d0, d1, d2, d3, d4, d5, d6, d7⟩ := is_bounds h
  rw [fields_form d0 d1 d2 d3 d4 d5 d6 d7, hm, he]
  simp only [isB, Bool.and_eq_true] at h
  obtain ⟨_, i1, i2, i3, i4, i5⟩ := h
  rw [show hasRs2 op = false from decide_eq_false (by omega)] at i3
  obtain rfl : rs2 = 0 := regno i3
  rw [show hasCsr op = false from decide_eq_false (by omega)] at i4
  obtain rfl : csr = 0 := csrno i4
  obtain ⟨e, f⟩ := num_I imm
  rw [e]
  obtain ⟨s, s0, s1⟩ := enc_sum (fit_of hh0 hh1) (fitm 7 5 128 3968 rfl rfl d0 d1) (fitm 15 5 32768 1015808 rfl rfl d2 d3) (fit_z 1048576) (fit_z 1048576) f (by decide)
  rw [s, IntKind.wrap_u32, Int.emod_eq_of_lt s0 s1, hh]
  clear s s0 s1 hh hh0 hh1 hm he
  generalize imm % 4294967296 % 4096 = x0_12
  omega
set_option maxHeartbeats 1000000 in
theorem sum_Hw (op rd rs1 rs2 imm csr : Int) (h0 : 32 ≤ op) (h1 : op ≤ 34) (h : isB op rd rs1 rs2 imm csr = true) : IntKind.u32.wrap (bits .or .u64 (bits .or .u64 (headE op) (fieldsE rd rs1 rs2 csr)) (numE op (IntKind.u64.wrap imm))) = encI op rd rs1 rs2 (imm % 4294967296) csr := by
  have hh : headE op = opcI op + f3I op * 4096 + f7I op * 33554432 ∧ 0 ≤ headE op ∧ (headE op).toNat &&& 1073762331 = (headE op).toNat := op_cases (p := fun op => 32 ≤ op ∧ op ≤ 34 → headE op = opcI op + f3I op * 4096 + f7I op * 33554432 ∧ 0 ≤ headE op ∧ (headE op).toNat &&& 1073762331 = (headE op).toNat) (by decide +kernel) (fun op h a => by omega) op ⟨h0, h1⟩
  obtain ⟨hh, hh0, hh1⟩ := hh
  have he : ∀ n, encI op rd rs1 rs2 n csr = opcI op + f3I op * 4096 + rs1 * 32768 + rd * 128 + n % 64 * 1048576 + f7I op * 33554432 := fun n => by
    have hc := cls_HwE op h0 h1
    unfold encI
    repeat rw [if_neg (by omega)]
    rw [if_pos (by omega)]
  have hm : numE op (IntKind.u64.wrap imm) = _ := numE_Hw op _ h0 h1
  obtain ⟨d0, d1, d2, d3, d4, d5, d6, d7⟩ := is_bounds h
  rw [fields_form d0 d1 d2 d3 d4 d5 d6 d7, hm, he]
  simp only [isB, Bool.and_eq_true] at h
  obtain ⟨_, i1, i2, i3, i4, i5⟩ := h
  rw [show hasRs2 op = false from decide_eq_false (by omega)] at i3
  obtain rfl : rs2 = 0 := regno i3
  rw [show hasCsr op = false from decide_eq_false (by omega)] at i4
  obtain rfl : csr = 0 := csrno i4
  rw [immB, show hasNum op = true from decide_eq_true (by omega), if_pos rfl, numB] at i5
  have hr : 0 ≤ imm ∧ imm < 32 := by
    have hc := cls_HwE op h0 h1
    rw [if_neg (by omega), if_neg (by omega), if_neg (by omega), if_neg (by omega), if_pos (by omega)] at i5
    simp [withinB] at i5
    omega
  obtain ⟨e, f⟩ := num_I imm
  rw [e]
  have ex : imm % 4294967296 % 4096 = imm := by omega
  have ey : imm % 4294967296 % 64 = imm := by omega
  rw [ex, ey]
  clear e f ex ey
  have f := fitm 20 6 1048576 66060288 rfl rfl hr.1 (by omega : imm < 2 ^ 6)
  obtain ⟨s, s0, s1⟩ := enc_sum (fit_of hh0 hh1) (fitm 7 5 128 3968 rfl rfl d0 d1) (fitm 15 5 32768 1015808 rfl rfl d2 d3) (fit_z 1048576) (fit_z 1048576) f (by decide)
  rw [s, IntKind.wrap_u32, Int.emod_eq_of_lt s0 s1, hh]
  clear s s0 s1 hh hh0 hh1 hm he
  omega
set_option maxHeartbeats 1000000 in
theorem sum_R (op rd rs1 rs2 imm csr : Int) (h0 : 35 ≤ op) (h1 : op ≤ 49) (h : isB op rd rs1 rs2 imm csr = true) : IntKind.u32.wrap (bits .or .u64 (bits .or .u64 (headE op) (fieldsE rd rs1 rs2 csr)) (numE op (IntKind.u64.wrap imm))) = encI op rd rs1 rs2 (imm % 4294967296) csr := by
  have hh : headE op = opcI op + f3I op * 4096 + f7I op * 33554432 ∧ 0 ≤ headE op ∧ (headE op).toNat &&& 1073770555 = (headE op).toNat := op_cases (p := fun op => 35 ≤ op ∧ op ≤ 49 → headE op = opcI op + f3I op * 4096 + f7I op * 33554432 ∧ 0 ≤ headE op ∧ (headE op).toNat &&& 1073770555 = (headE op).toNat) (by decide +kernel) (fun op h a => by omega) op ⟨h0, h1⟩
  obtain ⟨hh, hh0, hh1⟩ := hh
  have he : ∀ n, encI op rd rs1 rs2 n csr = opcI op + f3I op * 4096 + rs1 * 32768 + rd * 128 + rs2 * 1048576 + f7I op * 33554432 := fun n => by
    have hc := cls_RE op h0 h1
    unfold encI
    repeat rw [if_neg (by omega)]
    rw [if_pos (by omega)]
  have hm : numE op (IntKind.u64.wrap imm) = _ := numE_R op _ h0 h1
  obtain ⟨d0, d1, d2, d3, d4, d5, d6, d7⟩ := is_bounds h
  rw [fields_form d0 d1 d2 d3 d4 d5 d6 d7, hm, he]
  simp only [isB, Bool.and_eq_true] at h
  obtain ⟨_, i1, i2, i3, i4, i5⟩ := h
  rw [show hasCsr op = false from decide_eq_false (by omega)] at i4
  obtain rfl : csr = 0 := csrno i4
  obtain rfl : imm = 0 := immno (decide_eq_false (by omega)) i5
  rw [(num_I 0).1, show (0 : Int) % 4294967296 % 4096 * 1048576 = 0 from rfl]
  obtain ⟨s, s0, s1⟩ := enc_sum (fit_of hh0 hh1) (fitm 7 5 128 3968 rfl rfl d0 d1) (fitm 15 5 32768 1015808 rfl rfl d2 d3) (fitm 20 5 1048576 32505856 rfl rfl d4 d5) (fit_z 1048576) fit_nil (by decide)
  rw [s, IntKind.wrap_u32, Int.emod_eq_of_lt s0 s1, hh]
  clear s s0 s1 hh hh0 hh1 hm he
  omega
set_option maxHeartbeats 1000000 in
theorem sum_Fa (op rd rs1 rs2 imm csr : Int) (h0 : 50 ≤ op) (h1 : op ≤ 53) (h : isB op rd rs1 rs2 imm csr = true) : IntKind.u32.wrap (bits .or .u64 (bits .or .u64 (headE op) (fieldsE rd rs1 rs2 csr)) (numE op (IntKind.u64.wrap imm))) = encI op rd rs1 rs2 (imm % 4294967296) csr := by
  have hh : headE op = fixI op ∧ 0 ≤ headE op ∧ (headE op).toNat &&& 267391103 = (headE op).toNat := op_cases (p := fun op => 50 ≤ op ∧ op ≤ 53 → headE op = fixI op ∧ 0 ≤ headE op ∧ (headE op).toNat &&& 267391103 = (headE op).toNat) (by decide +kernel) (fun op h a => by omega) op ⟨h0, h1⟩
  obtain ⟨hh, hh0, hh1⟩ := hh
  have he : ∀ n, encI op rd rs1 rs2 n csr = fixI op := fun n => by
    have hc := cls_FaE op h0 h1
    unfold encI
    repeat rw [if_neg (by omega)]
    rw [if_pos (by omega)]
  have hm : numE op (IntKind.u64.wrap imm) = _ := numE_Fa op _ h0 h1
  obtain ⟨d0, d1, d2, d3, d4, d5, d6, d7⟩ := is_bounds h
  rw [fields_form d0 d1 d2 d3 d4 d5 d6 d7, hm, he]
  simp only [isB, Bool.and_eq_true] at h
  obtain ⟨_, i1, i2, i3, i4, i5⟩ := h
  rw [show hasRd op = false from decide_eq_false (by omega)] at i1
  obtain rfl : rd = 0 := regno i1
  rw [show hasRs1 op = false from decide_eq_false (by omega)] at i2
  obtain rfl : rs1 = 0 := regno i2
  rw [show hasRs2 op = false from decide_eq_false (by omega)] at i3
  obtain rfl : rs2 = 0 := regno i3
  rw [show hasCsr op = false from decide_eq_false (by omega)] at i4
  obtain rfl : csr = 0 := csrno i4
  obtain rfl : imm = 0 := immno (decide_eq_false (by omega)) i5
  rw [(num_I 0).1, show (0 : Int) % 4294967296 % 4096 * 1048576 = 0 from rfl]
  obtain ⟨s, s0, s1⟩ := enc_sum (fit_of hh0 hh1) (fit_z 128) (fit_z 32768) (fit_z 1048576) (fit_z 1048576) fit_nil (by decide)
  rw [s, IntKind.wrap_u32, Int.emod_eq_of_lt s0 s1, hh]
  clear s s0 s1 hh hh0 hh1 hm he
  omega
set_option maxHeartbeats 1000000 in
theorem sum_C (op rd rs1 rs2 imm csr : Int) (h0 : 54 ≤ op) (h1 : op ≤ 56) (h : isB op rd rs1 rs2 imm csr = true) : IntKind.u32.wrap (bits .or .u64 (bits .or .u64 (headE op) (fieldsE rd rs1 rs2 csr)) (numE op (IntKind.u64.wrap imm))) = encI op rd rs1 rs2 (imm % 4294967296) csr := by
  have hh : headE op = opcI op + f3I op * 4096 ∧ 0 ≤ headE op ∧ (headE op).toNat &&& 12403 = (headE op).toNat := op_cases (p := fun op => 54 ≤ op ∧ op ≤ 56 → headE op = opcI op + f3I op * 4096 ∧ 0 ≤ headE op ∧ (headE op).toNat &&& 12403 = (headE op).toNat) (by decide +kernel) (fun op h a => by omega) op ⟨h0, h1⟩
  obtain ⟨hh, hh0, hh1⟩ := hh
  have he : ∀ n, encI op rd rs1 rs2 n csr = opcI op + f3I op * 4096 + rs1 * 32768 + rd * 128 + csr * 1048576 := fun n => by
    have hc := cls_CE op h0 h1
    unfold encI
    repeat rw [if_neg (by omega)]
    rw [if_pos (by omega)]
  have hm : numE op (IntKind.u64.wrap imm) = _ := numE_C op _ h0 h1
  obtain ⟨d0, d1, d2, d3, d4, d5, d6, d7⟩ := is_bounds h
  rw [fields_form d0 d1 d2 d3 d4 d5 d6 d7, hm, he]
  simp only [isB, Bool.and_eq_true] at h
  obtain ⟨_, i1, i2, i3, i4, i5⟩ := h
  rw [show hasRs2 op = false from decide_eq_false (by omega)] at i3
  obtain rfl : rs2 = 0 := regno i3
  obtain rfl : imm = 0 := immno (decide_eq_false (by omega)) i5
  rw [show IntKind.u64.wrap (IntKind.u64.wrap 0 * 32768) = 0 from by decide]
  obtain ⟨s, s0, s1⟩ := enc_sum (fit_of hh0 hh1) (fitm 7 5 128 3968 rfl rfl d0 d1) (fitm 15 5 32768 1015808 rfl rfl d2 d3) (fit_z 1048576) (fitm 20 12 1048576 4293918720 rfl rfl d6 d7) fit_nil (by decide)
  rw [s, IntKind.wrap_u32, Int.emod_eq_of_lt s0 s1, hh]
  clear s s0 s1 hh hh0 hh1 hm he
  omega
set_option maxHeartbeats 1000000 in
theorem sum_Ci (op rd rs1 rs2 imm csr : Int) (h0 : 57 ≤ op) (h1 : op ≤ 59) (h : isB op rd rs1 rs2 imm csr = true) : IntKind.u32.wrap (bits .or .u64 (bits .or .u64 (headE op) (fieldsE rd rs1 rs2 csr)) (numE op (IntKind.u64.wrap imm))) = encI op rd rs1 rs2 (imm % 4294967296) csr := by
  have hh : headE op = opcI op + f3I op * 4096 ∧ 0 ≤ headE op ∧ (headE op).toNat &&& 28787 = (headE op).toNat := op_cases (p := fun op => 57 ≤ op ∧ op ≤ 59 → headE op = opcI op + f3I op * 4096 ∧ 0 ≤ headE op ∧ (headE op).toNat &&& 28787 = (headE op).toNat) (by decide +kernel) (fun op h a => by omega) op ⟨h0, h1⟩
  obtain ⟨hh, hh0, hh1⟩ := hh
  have he : ∀ n, encI op rd rs1 rs2 n csr = opcI op + f3I op * 4096 + rd * 128 + n * 32768 + csr * 1048576 := fun n => by
    have hc := cls_CiE op h0 h1
    unfold encI
    repeat rw [if_neg (by omega)]
    rw [if_pos (by omega)]
  have hm : numE op (IntKind.u64.wrap imm) = _ := numE_Ci op _ h0 h1
  obtain ⟨d0, d1, d2, d3, d4, d5, d6, d7⟩ := is_bounds h
  rw [fields_form d0 d1 d2 d3 d4 d5 d6 d7, hm, he]
  simp only [isB, Bool.and_eq_true] at h
  obtain ⟨_, i1, i2, i3, i4, i5⟩ := h
  rw [show hasRs1 op = false from decide_eq_false (by omega)] at i2
  obtain rfl : rs1 = 0 := regno i2
  rw [show hasRs2 op = false from decide_eq_false (by omega)] at i3
  obtain rfl : rs2 = 0 := regno i3
  rw [immB, show hasNum op = true from decide_eq_true (by omega), if_pos rfl, numB] at i5
  have hr : 0 ≤ imm ∧ imm < 32 := by
    have hc := cls_CiE op h0 h1
    rw [if_neg (by omega), if_neg (by omega), if_neg (by omega), if_neg (by omega), if_pos (by omega)] at i5
    simp [withinB] at i5
    omega
  rw [wraps_u64 imm (by omega) (by omega), wraps_u64 (imm * 32768) (by omega) (by omega), show imm % 4294967296 = imm by omega]
  have f := fitm 15 5 32768 1015808 rfl rfl hr.1 (by omega : imm < 2 ^ 5)
  obtain ⟨s, s0, s1⟩ := enc_sum (fit_of hh0 hh1) (fitm 7 5 128 3968 rfl rfl d0 d1) (fit_z 32768) (fit_z 1048576) (fitm 20 12 1048576 4293918720 rfl rfl d6 d7) f (by decide)
  rw [s, IntKind.wrap_u32, Int.emod_eq_of_lt s0 s1, hh]
  clear s s0 s1 hh hh0 hh1 hm he
  omega
set_option maxHeartbeats 1000000 in
theorem sum_Fb (op rd rs1 rs2 imm csr : Int) (h0 : 60 ≤ op) (h1 : op ≤ 62) (h : isB op rd rs1 rs2 imm csr = true) : IntKind.u32.wrap (bits .or .u64 (bits .or .u64 (headE op) (fieldsE rd rs1 rs2 csr)) (numE op (IntKind.u64.wrap imm))) = encI op rd rs1 rs2 (imm % 4294967296) csr := by
  have hh : headE op = fixI op ∧ 0 ≤ headE op ∧ (headE op).toNat &&& 812646515 = (headE op).toNat := op_cases (p := fun op => 60 ≤ op ∧ op ≤ 62 → headE op = fixI op ∧ 0 ≤ headE op ∧ (headE op).toNat &&& 812646515 = (headE op).toNat) (by decide +kernel) (fun op h a => by omega) op ⟨h0, h1⟩
  obtain ⟨hh, hh0, hh1⟩ := hh
  have he : ∀ n, encI op rd rs1 rs2 n csr = fixI op := fun n => by
    have hc := cls_FbE op h0 h1
    unfold encI
    repeat rw [if_neg (by omega)]
    rw [if_pos (by omega)]
  have hm : numE op (IntKind.u64.wrap imm) = _ := numE_Fb op _ h0 h1
  obtain ⟨d0, d1, d2, d3, d4, d5, d6, d7⟩ := is_bounds h
  rw [fields_form d0 d1 d2 d3 d4 d5 d6 d7, hm, he]
  simp only [isB, Bool.and_eq_true] at h
  obtain ⟨_, i1, i2, i3, i4, i5⟩ := h
  rw [show hasRd op = false from decide_eq_false (by omega)] at i1
  obtain rfl : rd = 0 := regno i1
  rw [show hasRs1 op = false from decide_eq_false (by omega)] at i2
  obtain rfl : rs1 = 0 := regno i2
  rw [show hasRs2 op = false from decide_eq_false (by omega)] at i3
  obtain rfl : rs2 = 0 := regno i3
  rw [show hasCsr op = false from decide_eq_false (by omega)] at i4
  obtain rfl : csr = 0 := csrno i4
  obtain rfl : imm = 0 := immno (decide_eq_false (by omega)) i5
  rw [(num_I 0).1, show (0 : Int) % 4294967296 % 4096 * 1048576 = 0 from rfl]
  obtain ⟨s, s0, s1⟩ := enc_sum (fit_of hh0 hh1) (fit_z 128) (fit_z 32768) (fit_z 1048576) (fit_z 1048576) fit_nil (by decide)
  rw [s, IntKind.wrap_u32, Int.emod_eq_of_lt s0 s1, hh]
  clear s s0 s1 hh hh0 hh1 hm he
  omega
set_option maxHeartbeats 1000000 in
theorem sum_V (op rd rs1 rs2 imm csr : Int) (h0 : 63 ≤ op) (h1 : op ≤ 65) (h : isB op rd rs1 rs2 imm csr = true) : IntKind.u32.wrap (bits .or .u64 (bits .or .u64 (headE op) (fieldsE rd rs1 rs2 csr)) (numE op (IntKind.u64.wrap imm))) = encI op rd rs1 rs2 (imm % 4294967296) csr := by
  have hh : headE op = opcI op + f3I op * 4096 + f7I op * 33554432 ∧ 0 ≤ headE op ∧ (headE op).toNat &&& 1912602739 = (headE op).toNat := op_cases (p := fun op => 63 ≤ op ∧ op ≤ 65 → headE op = opcI op + f3I op * 4096 + f7I op * 33554432 ∧ 0 ≤ headE op ∧ (headE op).toNat &&& 1912602739 = (headE op).toNat) (by decide +kernel) (fun op h a => by omega) op ⟨h0, h1⟩
  obtain ⟨hh, hh0, hh1⟩ := hh
  have he : ∀ n, encI op rd rs1 rs2 n csr = opcI op + f3I op * 4096 + rs1 * 32768 + rd * 128 + rs2 * 1048576 + f7I op * 33554432 := fun n => by
    have hc := cls_VE op h0 h1
    unfold encI
    repeat rw [if_neg (by omega)]
    rw [if_pos (by omega)]
  have hm : numE op (IntKind.u64.wrap imm) = _ := numE_V op _ h0 h1
  obtain ⟨d0, d1, d2, d3, d4, d5, d6, d7⟩ := is_bounds h
  rw [fields_form d0 d1 d2 d3 d4 d5 d6 d7, hm, he]
  simp only [isB, Bool.and_eq_true] at h
  obtain ⟨_, i1, i2, i3, i4, i5⟩ := h
  rw [show hasRd op = false from decide_eq_false (by omega)] at i1
  obtain rfl : rd = 0 := regno i1
  rw [show hasCsr op = false from decide_eq_false (by omega)] at i4
  obtain rfl : csr = 0 := csrno i4
  obtain rfl : imm = 0 := immno (decide_eq_false (by omega)) i5
  rw [(num_I 0).1, show (0 : Int) % 4294967296 % 4096 * 1048576 = 0 from rfl]
  obtain ⟨s, s0, s1⟩ := enc_sum (fit_of hh0 hh1) (fit_z 128) (fitm 15 5 32768 1015808 rfl rfl d2 d3) (fitm 20 5 1048576 32505856 rfl rfl d4 d5) (fit_z 1048576) fit_nil (by decide)
  rw [s, IntKind.wrap_u32, Int.emod_eq_of_lt s0 s1, hh]
  clear s s0 s1 hh hh0 hh1 hm he
  omega
set_option maxHeartbeats 1000000 in
theorem sum_G (op rd rs1 rs2 imm csr : Int) (h0 : 66 ≤ op) (h1 : op ≤ 67) (h : isB op rd rs1 rs2 imm csr = true) : IntKind.u32.wrap (bits .or .u64 (bits .or .u64 (headE op) (fieldsE rd rs1 rs2 csr)) (numE op (IntKind.u64.wrap imm))) = encI op rd rs1 rs2 (imm % 4294967296) csr := by
  have hh : headE op = opcI op + f3I op * 4096 + f7I op * 33554432 ∧ 0 ≤ headE op ∧ (headE op).toNat &&& 1811955827 = (headE op).toNat := op_cases (p := fun op => 66 ≤ op ∧ op ≤ 67 → headE op = opcI op + f3I op * 4096 + f7I op * 33554432 ∧ 0 ≤ headE op ∧ (headE op).toNat &&& 1811955827 = (headE op).toNat) (by decide +kernel) (fun op h a => by omega) op ⟨h0, h1⟩
  obtain ⟨hh, hh0, hh1⟩ := hh
  have he : ∀ n, encI op rd rs1 rs2 n csr = opcI op + f3I op * 4096 + rs1 * 32768 + rd * 128 + f7I op * 33554432 := fun n => by
    have hc := cls_GE op h0 h1
    unfold encI
    repeat rw [if_neg (by omega)]
    rw [if_pos (by omega)]
  have hm : numE op (IntKind.u64.wrap imm) = _ := numE_G op _ h0 h1
  obtain ⟨d0, d1, d2, d3, d4, d5, d6, d7⟩ := is_bounds h
  rw [fields_form d0 d1 d2 d3 d4 d5 d6 d7, hm, he]
  simp only [isB, Bool.and_eq_true] at h
  obtain ⟨_, i1, i2, i3, i4, i5⟩ := h
  rw [show hasRs2 op = false from decide_eq_false (by omega)] at i3
  obtain rfl : rs2 = 0 := regno i3
  rw [show hasCsr op = false from decide_eq_false (by omega)] at i4
  obtain rfl : csr = 0 := csrno i4
  obtain rfl : imm = 0 := immno (decide_eq_false (by omega)) i5
  rw [(num_I 0).1, show (0 : Int) % 4294967296 % 4096 * 1048576 = 0 from rfl]
  obtain ⟨s, s0, s1⟩ := enc_sum (fit_of hh0 hh1) (fitm 7 5 128 3968 rfl rfl d0 d1) (fitm 15 5 32768 1015808 rfl rfl d2 d3) (fit_z 1048576) (fit_z 1048576) fit_nil (by decide)
  rw [s, IntKind.wrap_u32, Int.emod_eq_of_lt s0 s1, hh]
  clear s s0 s1 hh hh0 hh1 hm he
  omega
set_option maxHeartbeats 1000000 in
theorem sum_X (op rd rs1 rs2 imm csr : Int) (h0 : 68 ≤ op) (h1 : op ≤ 68) (h : isB op rd rs1 rs2 imm csr = true) : IntKind.u32.wrap (bits .or .u64 (bits .or .u64 (headE op) (fieldsE rd rs1 rs2 csr)) (numE op (IntKind.u64.wrap imm))) = encI op rd rs1 rs2 (imm % 4294967296) csr := by
  have hh : headE op = opcI op + f3I op * 4096 + 3145728 + f7I op * 33554432 ∧ 0 ≤ headE op ∧ (headE op).toNat &&& 1747992691 = (headE op).toNat := op_cases (p := fun op => 68 ≤ op ∧ op ≤ 68 → headE op = opcI op + f3I op * 4096 + 3145728 + f7I op * 33554432 ∧ 0 ≤ headE op ∧ (headE op).toNat &&& 1747992691 = (headE op).toNat) (by decide +kernel) (fun op h a => by omega) op ⟨h0, h1⟩
  obtain ⟨hh, hh0, hh1⟩ := hh
  have he : ∀ n, encI op rd rs1 rs2 n csr = opcI op + f3I op * 4096 + rs1 * 32768 + rd * 128 + 3145728 + f7I op * 33554432 := fun n => by
    have hc := cls_XE op h0 h1
    unfold encI
    repeat rw [if_neg (by omega)]
    rw [if_pos (by omega)]
  have hm : numE op (IntKind.u64.wrap imm) = _ := numE_X op _ h0 h1
  obtain ⟨d0, d1, d2, d3, d4, d5, d6, d7⟩ := is_bounds h
  rw [fields_form d0 d1 d2 d3 d4 d5 d6 d7, hm, he]
  simp only [isB, Bool.and_eq_true] at h
  obtain ⟨_, i1, i2, i3, i4, i5⟩ := h
  rw [show hasRs2 op = false from decide_eq_false (by omega)] at i3
  obtain rfl : rs2 = 0 := regno i3
  rw [show hasCsr op = false from decide_eq_false (by omega)] at i4
  obtain rfl : csr = 0 := csrno i4
  obtain rfl : imm = 0 := immno (decide_eq_false (by omega)) i5
  rw [(num_I 0).1, show (0 : Int) % 4294967296 % 4096 * 1048576 = 0 from rfl]
  obtain ⟨s, s0, s1⟩ := enc_sum (fit_of hh0 hh1) (fitm 7 5 128 3968 rfl rfl d0 d1) (fitm 15 5 32768 1015808 rfl rfl d2 d3) (fit_z 1048576) (fit_z 1048576) fit_nil (by decide)
  rw [s, IntKind.wrap_u32, Int.emod_eq_of_lt s0 s1, hh]
  clear s s0 s1 hh hh0 hh1 hm he
  omega
set_option maxHeartbeats 1000000 in
theorem sum_Gs (op rd rs1 rs2 imm csr : Int) (h0 : 69 ≤ op) (h1 : op ≤ 69) (h : isB op rd rs1 rs2 imm csr = true) : IntKind.u32.wrap (bits .or .u64 (bits .or .u64 (headE op) (fieldsE rd rs1 rs2 csr)) (numE op (IntKind.u64.wrap imm))) = encI op rd rs1 rs2 (imm % 4294967296) csr := by
  have hh : headE op = opcI op + f3I op * 4096 + f7I op * 33554432 ∧ 0 ≤ headE op ∧ (headE op).toNat &&& 1845510259 = (headE op).toNat := op_cases (p := fun op => 69 ≤ op ∧ op ≤ 69 → headE op = opcI op + f3I op * 4096 + f7I op * 33554432 ∧ 0 ≤ headE op ∧ (headE op).toNat &&& 1845510259 = (headE op).toNat) (by decide +kernel) (fun op h a => by omega) op ⟨h0, h1⟩
  obtain ⟨hh, hh0, hh1⟩ := hh
  have he : ∀ n, encI op rd rs1 rs2 n csr = opcI op + f3I op * 4096 + rs1 * 32768 + rd * 128 + rs2 * 1048576 + f7I op * 33554432 := fun n => by
    have hc := cls_GsE op h0 h1
    unfold encI
    repeat rw [if_neg (by omega)]
    rw [if_pos (by omega)]
  have hm : numE op (IntKind.u64.wrap imm) = _ := numE_Gs op _ h0 h1
  obtain ⟨d0, d1, d2, d3, d4, d5, d6, d7⟩ := is_bounds h
  rw [fields_form d0 d1 d2 d3 d4 d5 d6 d7, hm, he]
  simp only [isB, Bool.and_eq_true] at h
  obtain ⟨_, i1, i2, i3, i4, i5⟩ := h
  rw [show hasRd op = false from decide_eq_false (by omega)] at i1
  obtain rfl : rd = 0 := regno i1
  rw [show hasCsr op = false from decide_eq_false (by omega)] at i4
  obtain rfl : csr = 0 := csrno i4
  obtain rfl : imm = 0 := immno (decide_eq_false (by omega)) i5
  rw [(num_I 0).1, show (0 : Int) % 4294967296 % 4096 * 1048576 = 0 from rfl]
  obtain ⟨s, s0, s1⟩ := enc_sum (fit_of hh0 hh1) (fit_z 128) (fitm 15 5 32768 1015808 rfl rfl d2 d3) (fitm 20 5 1048576 32505856 rfl rfl d4 d5) (fit_z 1048576) fit_nil (by decide)
  rw [s, IntKind.wrap_u32, Int.emod_eq_of_lt s0 s1, hh]
  clear s s0 s1 hh hh0 hh1 hm he
  omega
theorem enc_math {op rd rs1 rs2 imm csr : Int} (h : isB op rd rs1 rs2 imm csr = true) : IntKind.u32.wrap (bits .or .u64 (bits .or .u64 (headE op) (fieldsE rd rs1 rs2 csr)) (numE op (IntKind.u64.wrap imm))) = encI op rd rs1 rs2 (imm % 4294967296) csr := by
  obtain ⟨h0, h1⟩ := cls_of_is h
  by_cases c0 : op ≤ 2
  · exact sum_U op rd rs1 rs2 imm csr (by omega) c0 h
  by_cases c1 : op ≤ 3
  · exact sum_J op rd rs1 rs2 imm csr (by omega) c1 h
  by_cases c2 : op ≤ 4
  · exact sum_Jr op rd rs1 rs2 imm csr (by omega) c2 h
  by_cases c3 : op ≤ 10
  · exact sum_B op rd rs1 rs2 imm csr (by omega) c3 h
  by_cases c4 : op ≤ 17
  · exact sum_L op rd rs1 rs2 imm csr (by omega) c4 h
  by_cases c5 : op ≤ 21
  · exact sum_S op rd rs1 rs2 imm csr (by omega) c5 h
  by_cases c6 : op ≤ 27
  · exact sum_I op rd rs1 rs2 imm csr (by omega) c6 h
  by_cases c7 : op ≤ 30
  · exact sum_H op rd rs1 rs2 imm csr (by omega) c7 h
  by_cases c8 : op ≤ 31
  · exact sum_Iw op rd rs1 rs2 imm csr (by omega) c8 h
  by_cases c9 : op ≤ 34
  · exact sum_Hw op rd rs1 rs2 imm csr (by omega) c9 h
  by_cases c10 : op ≤ 49
  · exact sum_R op rd rs1 rs2 imm csr (by omega) c10 h
  by_cases c11 : op ≤ 53
  · exact sum_Fa op rd rs1 rs2 imm csr (by omega) c11 h
  by_cases c12 : op ≤ 56
  · exact sum_C op rd rs1 rs2 imm csr (by omega) c12 h
  by_cases c13 : op ≤ 59
  · exact sum_Ci op rd rs1 rs2 imm csr (by omega) c13 h
  by_cases c14 : op ≤ 62
  · exact sum_Fb op rd rs1 rs2 imm csr (by omega) c14 h
  by_cases c15 : op ≤ 65
  · exact sum_V op rd rs1 rs2 imm csr (by omega) c15 h
  by_cases c16 : op ≤ 67
  · exact sum_G op rd rs1 rs2 imm csr (by omega) c16 h
  by_cases c17 : op ≤ 68
  · exact sum_X op rd rs1 rs2 imm csr (by omega) c17 h
  exact sum_Gs op rd rs1 rs2 imm csr (by omega) h1 h
end Go.Proofs.YtdogjmimjjmmaaaDoor
