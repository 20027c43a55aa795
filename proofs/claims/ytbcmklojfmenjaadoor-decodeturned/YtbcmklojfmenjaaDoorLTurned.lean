/-
  sallyportlaw3.DecodeTurned, walked whole: true for every instruction and every byte.
-/
import Derived.Test.YtbcmklojfmenjaaDoorLMade
namespace Go.Proofs.YtbcmklojfmenjaaDoor
open Go.RowKit
theorem pow_bd {k : Int} (h0 : 0 ≤ k) (h1 : k < 32) : 0 < (2 : Int) ^ k.toNat % 4294967296 ∧ (2 : Int) ^ k.toNat % 4294967296 < 4294967296 := by
  have := (by decide +kernel : ∀ j : Fin 32, 0 < (2 : Int) ^ j.val % 4294967296 ∧ (2 : Int) ^ j.val % 4294967296 < 4294967296) ⟨k.toNat, by omega⟩
  exact this
theorem xor_bd (v m : Int) : 0 ≤ bits .xor .u32 v m ∧ bits .xor .u32 v m < 4294967296 := by
  show 0 ≤ IntKind.u32.wrap _ ∧ IntKind.u32.wrap _ < 4294967296
  rw [IntKind.wrap_u32]
  omega
theorem xor_ne {v m : Int} (h0 : 0 ≤ v) (h1 : v < 4294967296) (m0 : 0 < m) (m1 : m < 4294967296) : bits .xor .u32 v m ≠ v := by
  intro h
  obtain ⟨a, rfl⟩ := Int.eq_ofNat_of_zero_le h0
  obtain ⟨b, rfl⟩ := Int.eq_ofNat_of_zero_le (Int.le_of_lt m0)
  have e : IntKind.u32.wrap (((BitVec.ofInt 32 (a : Int) ^^^ BitVec.ofInt 32 (b : Int)).toNat : Nat) : Int) = (a : Int) := h
  rw [IntKind.wrap_u32] at e
  simp only [BitVec.ofInt_natCast] at e
  have hl := (BitVec.ofNat 32 a ^^^ BitVec.ofNat 32 b).isLt
  have e2 : (BitVec.ofNat 32 a ^^^ BitVec.ofNat 32 b).toNat = a := by omega
  have e3 : BitVec.ofNat 32 a ^^^ BitVec.ofNat 32 b = BitVec.ofNat 32 a := by
    apply BitVec.eq_of_toNat_eq
    rw [e2, BitVec.toNat_ofNat]
    omega
  have e4 : BitVec.ofNat 32 b = 0#32 := by
    have := congrArg (fun z => BitVec.ofNat 32 a ^^^ z) e3
    simpa [← BitVec.xor_assoc] using this
  have e5 := congrArg BitVec.toNat e4
  rw [BitVec.toNat_ofNat] at e5
  simp at e5
  omega
theorem same_eq {a b c d e f a' b' c' d' e' f' : Int} (h : sameB a b c d e f a' b' c' d' e' f' = true) : a = a' ∧ b = b' ∧ c = c' ∧ d = d' ∧ e = e' ∧ f = f' := by
  unfold sameB at h
  simpa using h
/-- A word that isn't the instruction's isn't read as it. -/
theorem other_word {op rd rs1 rs2 imm csr v x : Int} (h0 : 1 ≤ op) (hv : v = encI op rd rs1 rs2 (imm % 4294967296) csr) (hx : x ≠ v) : sameB (xOp x) (xRd x) (xRs1 x) (xRs2 x) (xImm x) (xCsr x) op rd rs1 rs2 imm csr = false := by
  cases h : sameB (xOp x) (xRd x) (xRs1 x) (xRs2 x) (xImm x) (xCsr x) op rd rs1 rs2 imm csr
  · rfl
  · exfalso
    obtain ⟨e0, e1, e2, e3, e4, e5⟩ := same_eq h
    rcases hit_ways3 x with ⟨ho, k0, k1, hy, _⟩ | ⟨ho, k0, _⟩
    · have hh := eq_of_beq (hit_yes hy).2.2
      unfold gEnc at hh
      unfold xOp at e0
      unfold xRd at e1
      unfold xRs1 at e2
      unfold xRs2 at e3
      unfold xImm at e4
      unfold xCsr at e5
      rw [ho] at e1 e2 e3 e4 e5
      simp only [cond_true] at e1 e2 e3 e4 e5
      rw [e1, e2, e3, e4, e5, e0, ← hv] at hh
      exact hx hh.symm
    · unfold xOp at e0
      rw [k0] at e0
      simp at e0
      omega
theorem neq_insn (op rd rs1 rs2 imm csr op' rd' rs1' rs2' imm' csr' : Int) (w : World) :
    (binOp .neq 25 (.agg #[.int .i64 op, .int .i64 rd, .int .i64 rs1, .int .i64 rs2, .int .i64 imm, .int .i64 csr]) (.agg #[.int .i64 op', .int .i64 rd', .int .i64 rs1', .int .i64 rs2', .int .i64 imm', .int .i64 csr'])).run Tryd.prog w
      = Result.ok (.bool (!sameB op rd rs1 rs2 imm csr op' rd' rs1' rs2' imm' csr')) w := by
  simp [go_sem]
  unfold sameB
  by_cases h0 : op = op'
  · by_cases h1 : rd = rd'
    · by_cases h2 : rs1 = rs1'
      · by_cases h3 : rs2 = rs2'
        · by_cases h4 : imm = imm'
          · by_cases h5 : csr = csr' <;> simp [h0, h1, h2, h3, h4, h5]
          · simp [h0, h1, h2, h3, h4]
        · simp [h0, h1, h2, h3]
      · simp [h0, h1, h2]
    · simp [h0, h1]
  · simp [h0]
set_option maxHeartbeats 4000000 in
theorem turned_law (op rd rs1 rs2 imm csr k : Int) (hk0 : 0 ≤ k) (hk1 : k < 256) (W : World) (hT : Tab W) :
    Calls Tryd.prog 5 #[.agg #[.int .i64 op, .int .i64 rd, .int .i64 rs1, .int .i64 rs2, .int .i64 imm, .int .i64 csr], .int .u8 k] W fun e w' => e = .returned (.bool true) ∧ Grown W w' := by
  have hq := eql_insn
  have hT1 := hT.grown ((Grown.refl W).alloc #[.int .i64 op, .int .i64 rd, .int .i64 rs1, .int .i64 rs2, .int .i64 imm, .int .i64 csr] 25)
  have hg := Grown.refl (W.alloc (.cells #[.int .i64 op, .int .i64 rd, .int .i64 rs1, .int .i64 rs2, .int .i64 imm, .int .i64 csr] 25))
  cases h : isB op rd rs1 rs2 imm csr
  · go_enter Tryd.func5, Tryd.ntmps5
    go_wp2_with (first | (go_at_call 8; refine (known_from hT1 hg).mono ?_; rintro e w' ⟨rfl, hg⟩; obtain ⟨c0, c1, c2, c3, c4, c5⟩ := (Six.new _ _ _ _ _ _ _ _).grown hg) | (go_at_call 14; refine (enc_none_from hg _ _ _ _ _ _ h).mono ?_; rintro e w' ⟨rfl, hg⟩; obtain ⟨c0, c1, c2, c3, c4, c5⟩ := (Six.new _ _ _ _ _ _ _ _).grown hg))
    go_ret
    exact ⟨rfl, Grown.trans' ((Grown.refl _).alloc _ _) hg⟩
  · obtain ⟨v, hv⟩ : ∃ v, v = encI op rd rs1 rs2 (imm % 4294967296) csr := ⟨_, rfl⟩
    have hm := made_any op rd rs1 rs2 imm csr v h hv
    have hv0 := hm.b0
    have hv1 := hm.b1
    have henc := fun (w : World) (hg : Grown (W.alloc (.cells #[.int .i64 op, .int .i64 rd, .int .i64 rs1, .int .i64 rs2, .int .i64 imm, .int .i64 csr] 25)) w) => enc_from hg op rd rs1 rs2 imm csr v h hv
    clear hm
    obtain ⟨k0, k1⟩ := cls_of_is h
    have hpow : 0 < (2 : Int) ^ (k % 32).toNat % 4294967296 ∧ (2 : Int) ^ (k % 32).toNat % 4294967296 < 4294967296 := pow_bd (by omega) (by omega)
    obtain ⟨b0, b1⟩ := xor_bd v (2 ^ (k % 32).toNat % 4294967296)
    have hne := xor_ne hv0 hv1 hpow.1 hpow.2
    have hun := other_word k0 hv hne
    have hun' : (!sameB (xOp (bits .xor .u32 v (2 ^ (k % 32).toNat % 4294967296))) (xRd (bits .xor .u32 v (2 ^ (k % 32).toNat % 4294967296))) (xRs1 (bits .xor .u32 v (2 ^ (k % 32).toNat % 4294967296))) (xRs2 (bits .xor .u32 v (2 ^ (k % 32).toNat % 4294967296))) (xImm (bits .xor .u32 v (2 ^ (k % 32).toNat % 4294967296))) (xCsr (bits .xor .u32 v (2 ^ (k % 32).toNat % 4294967296))) op rd rs1 rs2 imm csr) = true := by rw [hun]; rfl
    clear hv h hne hpow hun
    go_enter Tryd.func5, Tryd.ntmps5
    go_wp2_with (first | (go_at_call 8; refine (known_from hT1 hg).mono ?_; rintro e w' ⟨rfl, hg⟩; obtain ⟨c0, c1, c2, c3, c4, c5⟩ := (Six.new _ _ _ _ _ _ _ _).grown hg) | (go_at_call 14; refine (henc _ hg).mono ?_; rintro e w' ⟨rfl, hg⟩))
    clear henc
    generalize bits .xor .u32 v (2 ^ (k % 32).toNat % 4294967296) = x at *
    have hrx := same_refl (xOp x) (xRd x) (xRs1 x) (xRs2 x) (xImm x) (xCsr x)
    have hn := neq_insn
    have hok : (okB x = true ∧ xE x = 0) ∨ (okB x = false ∧ xE x = 40) := by unfold xE; cases okB x <;> simp
    refine (decode_from hT1 hg x b0 b1).mono ?_
    rintro e w2 ⟨rfl, hg⟩
    rcases hok with ⟨z1, z2⟩ | ⟨z1, z2⟩
    all_goals
      have hg2 := Grown.refl (w2.alloc (.cells #[.int .i64 (xOp x), .int .i64 (xRd x), .int .i64 (xRs1 x), .int .i64 (xRs2 x), .int .i64 (xImm x), .int .i64 (xCsr x)] 25))
      go_wp2_with fail
      refine (rdecode_from hg2 x b0 b1).mono ?_
      rintro e w3 ⟨rfl, hg2⟩
      obtain ⟨c0, c1, c2, c3, c4, c5⟩ := ((((Six.new W 25 op rd rs1 rs2 imm csr).grown hg).grown ((Grown.refl w2).alloc #[.int .i64 (xOp x), .int .i64 (xRd x), .int .i64 (xRs1 x), .int .i64 (xRs2 x), .int .i64 (xImm x), .int .i64 (xCsr x)] 25)).grown hg2).grown ((Grown.refl w3).alloc #[.int .i64 (xOp x), .int .i64 (xRd x), .int .i64 (xRs1 x), .int .i64 (xRs2 x), .int .i64 (xImm x), .int .i64 (xCsr x)] 25)
      obtain ⟨d0, d1, d2, d3, d4, d5⟩ := ((Six.new w2 25 (xOp x) (xRd x) (xRs1 x) (xRs2 x) (xImm x) (xCsr x)).grown hg2).grown ((Grown.refl w3).alloc #[.int .i64 (xOp x), .int .i64 (xRd x), .int .i64 (xRs1 x), .int .i64 (xRs2 x), .int .i64 (xImm x), .int .i64 (xCsr x)] 25)
      go_wp2_with fail
      go_ret
      exact ⟨rfl, Grown.trans' (Grown.trans' ((Grown.refl _).alloc _ _) hg) (Grown.trans' ((Grown.refl _).alloc _ _) (Grown.trans' hg2 ((Grown.refl _).alloc _ _)))⟩
end Go.Proofs.YtbcmklojfmenjaaDoor
