/-
  What package legal's calls answer, told by the document's words.
-/
import Derived.Test.YthmanpfooegbcaaDoorTLegal
import Derived.Test.YthmanpfooegbcaaDoorRefClean
namespace Go.Proofs.YthmanpfooegbcaaDoor
open Go.RowKit
theorem and_zero (x : Int) : (bits .and .u64 x 0 != 0) = false := by
  rw [bits_and, show BitVec.ofInt 64 0 = 0#64 from rfl, BitVec.and_zero]
  rfl
section
variable {S : StM} {w : World}
theorem csr_384 (hS : S.Ok) (wr : Bool) : ansI S 1 1048576 = csrC S 384 wr := by
  have b0 := bit_ne (hS.C 0 (by omega)) 20 (by omega) 1048576 rfl
  have b1 := bit_ne (hS.C 16 (by omega)) 20 (by omega) 1048576 rfl
  unfold ansI csrC
  rw [b0, b1, show okC 384 = true from by decide +kernel, show whoI 384 = 1 from by decide +kernel]
  rcases lvl_ways S with hl | hl | hl | hl | hl <;> rw [hl] <;> cases bitB (S.C 0) 20 <;> cases bitB (S.C 16) 20 <;> cases wr <;> decide +kernel
theorem csr_3074 : ansI S 2 0 = csrC S 3074 false := by
  unfold ansI csrC
  rw [and_zero, and_zero, show okC 3074 = true from by decide +kernel, show whoI 3074 = 0 from by decide +kernel]
  rcases lvl_ways S with hl | hl | hl | hl | hl <;> rw [hl] <;> simp <;> decide +kernel
theorem csr_other (n : Int) (wr : Bool) (ho : okC n = true) (hw : wr = false ∨ (wr = true ∧ n < 3072)) (h1 : n ≠ 384) (h2 : n ≠ 3074) (h3 : whoI n ≠ 0) : ansI S (whoI n) 0 = csrC S n wr := by
  have hw' : (wr && decide (3072 ≤ n)) = false := by
    rcases hw with e | ⟨_, e⟩
    · rw [e]; rfl
    · rw [decide_eq_false (by omega), Bool.and_false]
  have e1 : (n == 384) = false := beq_eq_false_iff_ne.2 h1
  have e2 : (n == 3074) = false := beq_eq_false_iff_ne.2 h2
  unfold ansI csrC
  rw [and_zero, and_zero, ho, hw', e1, e2]
  rcases who_ways n with h | h | h | h
  · exact absurd h h3
  all_goals
    rw [h]
    rcases lvl_ways S with hl | hl | hl | hl | hl <;> rw [hl] <;> simp <;> decide +kernel
theorem who_ok {n : Int} (ho : okC n = true) (h2 : n ≠ 3074) : whoI n ≠ 0 := by
  rcases of_decide_eq_true ho with h | h | h | h | h
  · obtain ⟨i, hi, _, hn, _⟩ := idx_yes h
    rw [← hn]
    have hd : ∀ i : Fin 29, whoI (numI (i.val : Int)) ≠ 0 := by decide +kernel
    exact hd ⟨i, hi⟩
  · rw [h]; decide +kernel
  · rw [h]; decide +kernel
  · rw [h]; decide +kernel
  · exact absurd h h2
theorem llevel_any (_ : Tab9 w) (_ : S.Cl) :
    Calls Tryd.prog 14 #[.agg (rowOf 65 (stF S))] w fun e w' => e = .returned (.int .i64 (lvlI S)) ∧ Kept w w' := llevel_c S w
theorem nN_first (j : Nat) (h : j < 1) : nN j ≠ 3074 := by
  obtain rfl : j = 0 := by omega
  decide
theorem lcsr_any (hT : Tab9 w) (hC : S.Cl) (n : Int) (wr : Bool) :
    Calls Tryd.prog 10 #[.agg (rowOf 65 (stF S)), .int .i64 n, .bool wr] w fun e w' => e = .returned (.tuple #[.int .u64 (csrC S n wr), .bool (csrC S n wr == 0)]) ∧ Kept w w' := by
  cases ho : okC n
  · have e : csrC S n wr = 2 := by unfold csrC; rw [ho]; rfl
    rw [e]
    exact lcsr_none hT hC.ok n wr ho
  · by_cases hh : wr = true ∧ 3072 ≤ n
    · have e : csrC S n wr = 2 := by unfold csrC; rw [ho, hh.1, decide_eq_true hh.2]; rfl
      rw [e]
      exact lcsr_high hT hC.ok n wr ho hh.1 hh.2
    · have hw : wr = false ∨ (wr = true ∧ n < 3072) := by
        cases wr
        · exact .inl rfl
        · exact .inr ⟨rfl, by have : ¬ 3072 ≤ n := fun h => hh ⟨rfl, h⟩; omega⟩
      by_cases h1 : n = 384
      · subst h1
        rw [← csr_384 hC.ok wr]
        exact lcsr_ans hT hC.ok 384 wr 1 1048576 _ ho hw (fun w0 h0 => num_hit h0 384 0 (by omega) rfl (fun j hj => by omega)) (fun w0 h0 => ans_any h0 1 1048576 (by decide))
      · by_cases h2 : n = 3074
        · subst h2
          have hwf : wr = false := by
            rcases hw with e | ⟨_, e⟩
            · exact e
            · omega
          subst hwf
          rw [← csr_3074]
          exact lcsr_ans hT hC.ok 3074 false 2 0 _ ho hw (fun w0 h0 => num_hit h0 3074 1 (by omega) rfl (fun j hj => nN_first j hj)) (fun w0 h0 => ans_any h0 2 0 (by decide))
        · have h3 := who_ok ho h2
          rw [← csr_other n wr ho hw h1 h2 h3]
          refine lcsr_ans hT hC.ok n wr (whoI n) 0 _ ho hw (fun w0 h0 => num_none h0 n (fun j hj => ?_)) (fun w0 h0 => ans_any h0 (whoI n) 0 (who_ways n))
          have : j = 0 ∨ j = 1 := by omega
          rcases this with rfl | rfl
          · exact fun e => h1 e.symm
          · exact fun e => h2 e.symm
theorem oL_66 : ∀ j : Fin 6, oL j.val < 66 := by decide
theorem oper_at {w0 : World} (h0 : Tab9 w0) (op : Int) (m : Nat) (hm : m < 7) (h : oF m ≤ op ∧ op ≤ oL m) (hno : ∀ j : Fin m, oL j.val < op) (o t : Int) (ho : oO m = o) (ht : oT m = t) :
    Calls Tryd.prog 33 #[.int .i64 op] w0 fun e w' => e = .returned (.agg #[.int .i64 o, .int .u64 t]) ∧ Kept w0 w' := by
  subst ho ht
  exact oper_hit h0 op m hm (fun j hj x => by have := hno ⟨j, hj⟩; simp only at this; omega) h.1 h.2
theorem ins_60 : ansI S 3 0 = (bif lvlI S == 3 then 0 else 2) := by
  unfold ansI
  rw [and_zero, and_zero]
  rcases lvl_ways S with hl | hl | hl | hl | hl <;> rw [hl] <;> simp <;> decide +kernel
theorem ins_kep (hS : S.Ok) (k : Nat) (hk : k < 64) (m : Int) (hm : m = ((2 ^ k : Nat) : Int)) : ansI S 1 m = kepC S k := by
  have b0 := bit_ne (hS.C 0 (by omega)) k hk m hm
  have b1 := bit_ne (hS.C 16 (by omega)) k hk m hm
  unfold ansI kepC
  rw [b0, b1]
  rcases lvl_ways S with hl | hl | hl | hl | hl <;> rw [hl] <;> cases bitB (S.C 0) k <;> cases bitB (S.C 16) k <;> decide +kernel
theorem ins_wfi1 (hb : waitB S = true) : wfiC S = 2 := by
  unfold waitB at hb
  unfold wfiC
  rcases lvl_ways S with hl | hl | hl | hl | hl <;> rw [hl] at hb ⊢ <;> revert hb <;> cases bitB (S.C 0) 21 <;> cases bitB (S.C 16) 21 <;> decide +kernel
theorem ins_wfi0 (hS : S.Ok) (hb : waitB S = false) : ansI S 1 2097152 = wfiC S := by
  have b0 := bit_ne (hS.C 0 (by omega)) 21 (by omega) 2097152 rfl
  have b1 := bit_ne (hS.C 16 (by omega)) 21 (by omega) 2097152 rfl
  unfold waitB at hb
  unfold ansI wfiC
  rw [b0, b1]
  rcases lvl_ways S with hl | hl | hl | hl | hl <;> rw [hl] at hb ⊢ <;> revert hb <;> cases bitB (S.C 0) 21 <;> cases bitB (S.C 16) 21 <;> decide +kernel
theorem ins_64 : ansI S 2 0 = hypC S 64 := by
  unfold ansI hypC
  rw [and_zero, and_zero, show clsI 64 = 11 from by decide +kernel]
  rcases lvl_ways S with hl | hl | hl | hl | hl <;> rw [hl] <;> simp <;> decide +kernel
theorem ins_65 (hS : S.Ok) : ansI S 2 1048576 = hypC S 65 := by
  have b0 := bit_ne (hS.C 0 (by omega)) 20 (by omega) 1048576 rfl
  have b1 := bit_ne (hS.C 16 (by omega)) 20 (by omega) 1048576 rfl
  unfold ansI hypC
  rw [b0, b1, show clsI 65 = 11 from by decide +kernel]
  rcases lvl_ways S with hl | hl | hl | hl | hl <;> rw [hl] <;> cases bitB (S.C 0) 20 <;> cases bitB (S.C 16) 20 <;> cases bitB (S.C 16) 9 <;> decide +kernel
theorem ins_lent {op : Int} (hc : clsI op = 12) (ho : (op == 65) = false) (hb : lentB S = true) : hypC S op = 0 := by
  unfold lentB at hb
  unfold hypC
  rw [hc, ho]
  rcases lvl_ways S with hl | hl | hl | hl | hl <;> rw [hl] at hb ⊢ <;> revert hb <;> cases bitB (S.C 16) 9 <;> cases bitB (S.C 0) 20 <;> decide +kernel
theorem ins_hlv {op : Int} (hc : clsI op = 12) (ho : (op == 65) = false) (hb : lentB S = false) : ansI S 2 0 = hypC S op := by
  unfold lentB at hb
  unfold ansI hypC
  rw [and_zero, and_zero, hc, ho]
  rcases lvl_ways S with hl | hl | hl | hl | hl <;> rw [hl] at hb ⊢ <;> revert hb <;> cases bitB (S.C 16) 9 <;> cases bitB (S.C 0) 20 <;> decide +kernel
theorem ins_0 : ansI S 0 0 = 0 := by
  unfold ansI
  rw [and_zero, and_zero]
  rcases lvl_ways S with hl | hl | hl | hl | hl <;> rw [hl] <;> simp <;> decide +kernel
theorem linsn_any (hT : Tab9 w) (hC : S.Cl) (op rd rs1 rs2 imm csr : Int) :
    Calls Tryd.prog 12 #[.agg (rowOf 65 (stF S)), .agg #[.int .i64 op, .int .i64 rd, .int .i64 rs1, .int .i64 rs2, .int .i64 imm, .int .i64 csr]] w fun e w' => e = .returned (.tuple #[.int .u64 (insC S op rd rs1 rs2 imm csr), .bool (insC S op rd rs1 rs2 imm csr == 0)]) ∧ Kept w w' := by
  cases hi : isB op rd rs1 rs2 imm csr
  · have e : insC S op rd rs1 rs2 imm csr = 2 := by unfold insC; rw [hi]; rfl
    rw [e]
    exact linsn_none hT op rd rs1 rs2 imm csr hi
  · by_cases h9 : 54 ≤ op ∧ op ≤ 59
    · have hc : clsI op = 9 := (cls_9 h9.1 h9.2).symm
      have e : insC S op rd rs1 rs2 imm csr = csrC S csr (wrB op rs1 imm) := by unfold insC; rw [hi, hc]; rfl
      rw [e]
      exact linsn_csr hT op rd rs1 rs2 imm csr _ hi hc (fun w0 h0 => lcsr_any h0 hC csr _)
    · by_cases h60 : op = 60
      · subst h60
        have e : insC S 60 rd rs1 rs2 imm csr = ansI S 3 0 := by rw [ins_60]; unfold insC; rw [hi, show clsI 60 = 10 from by decide +kernel]; rfl
        rw [e]
        exact linsn_ans hT 60 rd rs1 rs2 imm csr 3 0 _ (fun w0 h0 => oper_at h0 60 0 (by omega) (by decide) (by decide) 3 0 rfl rfl) (fun w0 h0 => ans_any h0 3 0 (by decide)) hi (by decide +kernel) (by decide +kernel) (by decide)
      · by_cases h61 : op = 61
        · subst h61
          have e : insC S 61 rd rs1 rs2 imm csr = ansI S 1 4194304 := by rw [ins_kep hC.ok 22 (by omega) 4194304 rfl]; unfold insC; rw [hi, show clsI 61 = 10 from by decide +kernel]; rfl
          rw [e]
          exact linsn_ans hT 61 rd rs1 rs2 imm csr 1 4194304 _ (fun w0 h0 => oper_at h0 61 1 (by omega) (by decide) (by decide) 1 4194304 rfl rfl) (fun w0 h0 => ans_any h0 1 4194304 (by decide)) hi (by decide +kernel) (by decide +kernel) (by decide)
        · by_cases h62 : op = 62
          · subst h62
            cases hb : waitB S
            · have e : insC S 62 rd rs1 rs2 imm csr = ansI S 1 2097152 := by rw [ins_wfi0 hC.ok hb]; unfold insC; rw [hi, show clsI 62 = 10 from by decide +kernel]; rfl
              rw [e]
              exact linsn_ans62 hT hC.ok 62 rd rs1 rs2 imm csr 1 2097152 _ (fun w0 h0 => oper_at h0 62 2 (by omega) (by decide) (by decide) 1 2097152 rfl rfl) (fun w0 h0 => ans_any h0 1 2097152 (by decide)) hi (by decide +kernel) (by decide) hb
            · have e : insC S 62 rd rs1 rs2 imm csr = 2 := by rw [← ins_wfi1 hb]; unfold insC; rw [hi, show clsI 62 = 10 from by decide +kernel]; rfl
              rw [e]
              exact linsn_wait hT hC.ok 62 rd rs1 rs2 imm csr hi (by decide +kernel) (by decide) hb
          · by_cases h63 : op = 63
            · subst h63
              have e : insC S 63 rd rs1 rs2 imm csr = ansI S 1 1048576 := by rw [ins_kep hC.ok 20 (by omega) 1048576 rfl]; unfold insC; rw [hi, show clsI 63 = 11 from by decide +kernel]; rfl
              rw [e]
              exact linsn_ans hT 63 rd rs1 rs2 imm csr 1 1048576 _ (fun w0 h0 => oper_at h0 63 3 (by omega) (by decide) (by decide) 1 1048576 rfl rfl) (fun w0 h0 => ans_any h0 1 1048576 (by decide)) hi (by decide +kernel) (by decide +kernel) (by decide)
            · by_cases h64 : op = 64
              · subst h64
                have e : insC S 64 rd rs1 rs2 imm csr = ansI S 2 0 := by rw [ins_64]; unfold insC; rw [hi, show clsI 64 = 11 from by decide +kernel]; rfl
                rw [e]
                exact linsn_ans hT 64 rd rs1 rs2 imm csr 2 0 _ (fun w0 h0 => oper_at h0 64 4 (by omega) (by decide) (by decide) 2 0 rfl rfl) (fun w0 h0 => ans_any h0 2 0 (by decide)) hi (by decide +kernel) (by decide +kernel) (by decide)
              · by_cases h65 : op = 65
                · subst h65
                  have e : insC S 65 rd rs1 rs2 imm csr = ansI S 2 1048576 := by rw [ins_65 hC.ok]; unfold insC; rw [hi, show clsI 65 = 11 from by decide +kernel]; rfl
                  rw [e]
                  exact linsn_ans hT 65 rd rs1 rs2 imm csr 2 1048576 _ (fun w0 h0 => oper_at h0 65 5 (by omega) (by decide) (by decide) 2 1048576 rfl rfl) (fun w0 h0 => ans_any h0 2 1048576 (by decide)) hi (by decide +kernel) (by decide +kernel) (by decide)
                · have d60 : (op == 60) = false := beq_eq_false_iff_ne.2 h60
                  have d61 : (op == 61) = false := beq_eq_false_iff_ne.2 h61
                  have d62 : (op == 62) = false := beq_eq_false_iff_ne.2 h62
                  have d63 : (op == 63) = false := beq_eq_false_iff_ne.2 h63
                  have d65 : (op == 65) = false := beq_eq_false_iff_ne.2 h65
                  by_cases hh : 66 ≤ op ∧ op ≤ 69
                  · have hc : clsI op = 12 := (cls_12 hh.1 hh.2).symm
                    have e : insC S op rd rs1 rs2 imm csr = hypC S op := by unfold insC; rw [hi, hc, d60, d61, d62, d63]; rfl
                    rw [e]
                    cases hb : lentB S
                    · rw [← ins_hlv hc d65 hb]
                      exact linsn_ans12 hT hC.ok op rd rs1 rs2 imm csr 2 0 _ (fun w0 h0 => oper_at h0 op 6 (by omega) hh (fun j => Int.lt_of_lt_of_le (oL_66 j) hh.1) 2 0 rfl rfl) (fun w0 h0 => ans_any h0 2 0 (by decide)) hi hc d62 hb
                    · rw [ins_lent hc d65 hb]
                      exact linsn_lent hT hC.ok op rd rs1 rs2 imm csr hi hc hb
                  · have hcl : clsI op < 9 := by
                      unfold clsI
                      repeat (first | omega | split)
                    have e9 : (clsI op == 9) = false := beq_eq_false_iff_ne.2 (by omega)
                    have e11 : (clsI op == 11) = false := beq_eq_false_iff_ne.2 (by omega)
                    have e12 : (clsI op == 12) = false := beq_eq_false_iff_ne.2 (by omega)
                    have e : insC S op rd rs1 rs2 imm csr = ansI S 0 0 := by rw [ins_0]; unfold insC; rw [hi, e9, d60, d61, d62, d63, e11, e12]; rfl
                    rw [e]
                    refine linsn_ans hT op rd rs1 rs2 imm csr 0 0 _ (fun w0 h0 => oper_none h0 op (fun j hj x => ?_)) (fun w0 h0 => ans_any h0 0 0 (by decide)) hi e9 e12 d62
                    have hd : ∀ j : Fin 7, 60 ≤ oF j.val ∧ oL j.val ≤ 69 := by decide
                    have hx := hd ⟨j, hj⟩
                    have hx1 : 60 ≤ oF j := hx.1
                    have hx2 : oL j ≤ 69 := hx.2
                    omega
end
end Go.Proofs.YthmanpfooegbcaaDoor
