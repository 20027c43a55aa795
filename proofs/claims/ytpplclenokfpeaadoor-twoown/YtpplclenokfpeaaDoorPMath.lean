/-
  Bits of entries: fewer of them, more of them; of an entry that was made. Plain facts: no call of the program is walked here.
-/
import Derived.Test.YtpplclenokfpeaaDoorRefMay
namespace Go.Proofs.YtpplclenokfpeaaDoor
open Go.RowKit
theorem ofInt_wrap (n : Int) : BitVec.ofInt 64 (IntKind.i64.wrap n) = BitVec.ofInt 64 n := by
  apply BitVec.eq_of_toNat_eq
  rw [BitVec.toNat_ofInt, BitVec.toNat_ofInt, IntKind.wrap_i64]
  omega
theorem gb_wrap (v : BitVec 64) (i : Nat) : gb (IntKind.i64.wrap (v.toNat : Int)) i = v.getLsbD i := by
  unfold gb
  rw [ofInt_wrap, BitVec.ofInt_natCast, BitVec.ofNat_toNat, BitVec.setWidth_eq]
theorem gb_andNot (x y : Int) (i : Nat) (hi : i < 64) : gb (bits .andNot .i64 x y) i = (gb x i && !gb y i) := by
  have h : bits .andNot .i64 x y = IntKind.i64.wrap ((BitVec.ofInt 64 x &&& ~~~BitVec.ofInt 64 y).toNat : Int) := rfl
  rw [h, gb_wrap]
  unfold gb
  rw [BitVec.getLsbD_and, BitVec.getLsbD_not, decide_eq_true hi, Bool.true_and]
theorem gb_or (x y : Int) (i : Nat) : gb (bits .or .i64 x y) i = (gb x i || gb y i) := by
  have h : bits .or .i64 x y = IntKind.i64.wrap ((BitVec.ofInt 64 x ||| BitVec.ofInt 64 y).toNat : Int) := rfl
  rw [h, gb_wrap]
  unfold gb
  rw [BitVec.getLsbD_or]
theorem i_two (x : Int) : (bits .and .i64 x 10 != 0) = (gb x 1 || gb x 3) := by
  have h : bits .and .i64 x 10 = IntKind.i64.wrap ((BitVec.ofInt 64 x &&& 10#64).toNat : Int) := rfl
  rw [h]
  unfold gb
  generalize BitVec.ofInt 64 x = v
  have e : (v &&& 10#64) = (v &&& 2#64) ||| (v &&& 8#64) := by
    rw [← BitVec.and_or_distrib_left]
    rfl
  have e1 : v &&& 2#64 = if v.getLsbD 1 then 2#64 else 0#64 := BitVec.and_twoPow v 1
  have e3 : v &&& 8#64 = if v.getLsbD 3 then 8#64 else 0#64 := BitVec.and_twoPow v 3
  rw [e, e1, e3]
  cases v.getLsbD 1 <;> cases v.getLsbD 3 <;> rfl
/-- Fewer bits, the user's as it was. -/
def lessI (b off : Int) : Int := bits .andNot .i64 b (bits .andNot .i64 off 16)
theorem less_bit (b off : Int) (i : Nat) (hi : i < 64) (h : gb (lessI b off) i = true) : gb b i = true := by
  unfold lessI at h
  rw [gb_andNot _ _ _ hi] at h
  exact (Bool.and_eq_true _ _ ▸ h).1
theorem less_user (b off : Int) : gb (lessI b off) 4 = gb b 4 := by
  unfold lessI
  rw [gb_andNot _ _ _ (by omega), gb_andNot _ _ _ (by omega), show gb 16 4 = true from by decide]
  simp
theorem who_mono {b c k : Int} {user sum : Bool} (h6 : gb c 6 = true → gb b 6 = true) (h4 : gb c 4 = gb b 4) (h : whoE c k user sum = true) : whoE b k user sum = true := by
  unfold whoE at h ⊢
  rw [h4] at h
  rw [Bool.and_eq_true] at h ⊢
  exact ⟨h6 h.1, h.2⟩
theorem can_mono {b c k : Int} {mxr : Bool} (h3 : gb c 3 = true → gb b 3 = true) (h1 : gb c 1 = true → gb b 1 = true) (h2 : gb c 2 = true → gb b 2 = true) (h7 : gb c 7 = true → gb b 7 = true) (h : canE c k mxr = true) : canE b k mxr = true := by
  unfold canE at h ⊢
  revert h
  cases k == 0
  · cases k == 1
    · cases k == 2
      · exact fun h => h
      · intro h
        simp only [cond_false, cond_true, Bool.and_eq_true] at h ⊢
        exact ⟨h2 h.1, h7 h.2⟩
    · intro h
      simp only [cond_false, cond_true, Bool.or_eq_true, Bool.and_eq_true] at h ⊢
      exact h.imp h1 (fun x => ⟨x.1, h3 x.2⟩)
  · exact fun h => h3 h
theorem may_less (b off k : Int) (user sum mxr : Bool) (h : mayE (lessI b off) k user sum mxr = true) : mayE b k user sum mxr = true := by
  unfold mayE at h ⊢
  rw [Bool.and_eq_true] at h ⊢
  exact ⟨who_mono (less_bit b off 6 (by omega)) (less_user b off) h.1, can_mono (less_bit b off 3 (by omega)) (less_bit b off 1 (by omega)) (less_bit b off 2 (by omega)) (less_bit b off 7 (by omega)) h.2⟩
theorem may_more (b k : Int) (user : Bool) (h : mayE b k user false false = true) : mayE b k user true true = true := by
  unfold mayE whoE canE at h ⊢
  revert h
  cases gb b 6 <;> cases user <;> cases gb b 4 <;> cases k == 0 <;> cases k == 1 <;> cases gb b 1 <;> simp
theorem may_bits {b k : Int} {user sum mxr : Bool} (h : mayE b k user sum mxr = true) : gb b 6 = true ∧ (user = true → gb b 4 = true) ∧ (k = 2 → gb b 2 = true ∧ gb b 7 = true) := by
  unfold mayE at h
  rw [Bool.and_eq_true] at h
  obtain ⟨h6, hw⟩ := who_yes h.1
  refine ⟨h6, fun hu => ?_, fun hk => ?_⟩
  · rcases hw with x | x | x
    · exact x.2
    · rw [hu] at x; cases x.1
    · rw [hu] at x; cases x.1
  · subst hk
    have := h.2
    unfold canE at this
    simpa using this
/-- The bits of an entry that was made. -/
theorem gb_nat (n i : Nat) (h : n < 2 ^ 64) : gb (n : Int) i = n.testBit i := by
  unfold gb
  rw [BitVec.ofInt_natCast, BitVec.getLsbD_ofNat]
  by_cases hi : i < 64
  · rw [decide_eq_true hi, Bool.true_and]
  · rw [decide_eq_false hi, Bool.false_and, Nat.testBit_lt_two_pow (Nat.lt_of_lt_of_le h (Nat.pow_le_pow_right (by decide) (by omega)))]
theorem made_bit {f b : Int} (f0 : 0 ≤ f) (f1 : f ≤ 255) (b0 : 0 ≤ b) (b1 : b ≤ 255) (i : Nat) (hi : i < 8) : gb (makI f b) i = gb b i := by
  obtain ⟨F, rfl⟩ := Int.eq_ofNat_of_zero_le f0
  obtain ⟨B, rfl⟩ := Int.eq_ofNat_of_zero_le b0
  have e : makI (F : Int) (B : Int) = ((2 ^ 8 * F + B : Nat) : Int) := by unfold makI; omega
  rw [e, gb_nat _ _ (by omega), gb_nat _ _ (by omega), Nat.testBit_two_pow_mul_add _ (by omega), if_pos hi]
theorem made_is {f b : Int} (f0 : 0 ≤ f) (f1 : f ≤ 255) (b0 : 0 ≤ b) (b1 : b ≤ 255) : isE (makI f b) = (gb b 0 && ((!gb b 2 || gb b 1) && !gb b 5)) := by
  unfold isE
  rw [made_bit f0 f1 b0 b1 0 (by omega), made_bit f0 f1 b0 b1 2 (by omega), made_bit f0 f1 b0 b1 1 (by omega), made_bit f0 f1 b0 b1 5 (by omega)]
  have e : makI f b / 65536 = 0 := by unfold makI; omega
  rw [e]
  rfl
theorem made_leaf {f b : Int} (f0 : 0 ≤ f) (f1 : f ≤ 255) (b0 : 0 ≤ b) (b1 : b ≤ 255) : leafE (makI f b) = (isE (makI f b) && (gb b 1 || gb b 3)) := by
  unfold leafE
  rw [made_bit f0 f1 b0 b1 1 (by omega), made_bit f0 f1 b0 b1 3 (by omega)]
theorem made_frame {f b : Int} (f0 : 0 ≤ f) (f1 : f ≤ 255) : frI (makI f b) = f := by unfold frI makI; omega
theorem made_low {f b : Int} (b0 : 0 ≤ b) (b1 : b ≤ 255) : bits .and .u64 (makI f b) 255 = b := by
  rw [u_low (makI f b) 8 (by omega) 255 rfl]
  unfold makI
  omega
theorem U_made (f b : Int) : U (makI f b) := by unfold U makI; omega
theorem or_high (x : Int) (h0 : 0 ≤ x) (h1 : x < 65536) (n : Nat) (hn : 16 ≤ n) (hm : n < 64) (m : Int) (hmm : m = ((2 ^ n : Nat) : Int)) : bits .or .u64 x m = m + x ∧ isE (bits .or .u64 x m) = false ∧ U (bits .or .u64 x m) := by
  subst hmm
  obtain ⟨X, rfl⟩ := Int.eq_ofNat_of_zero_le h0
  have hp : 2 ^ 16 ≤ 2 ^ n := Nat.pow_le_pow_right (by decide) hn
  have hq : 2 ^ n ≤ 2 ^ 63 := Nat.pow_le_pow_right (by decide) (by omega)
  have e : bits .or .u64 (X : Int) ((2 ^ n : Nat) : Int) = ((2 ^ n : Nat) : Int) + X := by
    rw [bits_or, BitVec.toNat_or, BitVec.ofInt_natCast, BitVec.ofInt_natCast, BitVec.toNat_ofNat, BitVec.toNat_ofNat, Nat.mod_eq_of_lt (by omega), Nat.mod_eq_of_lt (by omega), Nat.or_comm]
    have h := Nat.two_pow_add_eq_or_of_lt (i := n) (b := X) (by omega) 1
    rw [Nat.mul_one] at h
    rw [← h]
    omega
  refine ⟨e, ?_, U_or _ _⟩
  rw [e]
  generalize 2 ^ n = p at *
  have hd : ¬ ((p : Int) + X) / 65536 = 0 := by omega
  unfold isE
  rw [beq_eq_false_iff_ne.2 hd]
  simp
/-- With A and D beside. -/
def useI (b : Int) : Int := bits .or .i64 (bits .or .i64 b 64) 128
theorem use_6 (b : Int) : gb (useI b) 6 = true := by
  unfold useI
  rw [gb_or, gb_or, show gb 64 6 = true from by decide]
  simp
theorem use_may (b k : Int) (user sum mxr : Bool) : mayE (useI b) k user sum mxr = ((bif user then gb (useI b) 4 else (!gb (useI b) 4 || (sum && !(k == 0)))) && canE (useI b) k mxr) := by
  unfold mayE whoE
  rw [use_6, Bool.true_and]
theorem use_none (b k : Int) (h0 : k ≠ 0) (h1 : k ≠ 1) (h2 : k ≠ 2) (user sum mxr : Bool) : mayE (useI b) k user sum mxr = false := by
  rw [use_may]
  unfold canE
  rw [beq_eq_false_iff_ne.2 h0, beq_eq_false_iff_ne.2 h1, beq_eq_false_iff_ne.2 h2]
  simp
end Go.Proofs.YtpplclenokfpeaaDoor
