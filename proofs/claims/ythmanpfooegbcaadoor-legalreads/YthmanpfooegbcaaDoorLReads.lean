/-
  What statement LegalReads asks: walked for every argument.
-/
import Derived.Test.YthmanpfooegbcaaDoorLKnown
namespace Go.Proofs.YthmanpfooegbcaaDoor
open Go.RowKit
theorem is_csr_r {op d x n : Int} (h : op = 54 ∨ op = 55) (d0 : 0 ≤ d) (d1 : d < 32) (x0 : 0 ≤ x) (x1 : x < 32) (n0 : 0 ≤ n) (n1 : n < 4096) : isB op d x 0 0 n = true := by
  rcases h with rfl | rfl
  all_goals
    unfold isB regB csrB immB
    rw [show hasRd _ = true by decide, show hasRs1 _ = true by decide, show hasRs2 _ = false by decide, show hasCsr _ = true by decide, show hasNum _ = false by decide]
    have a : (d == 0 || true && (decide (0 < d) && decide (d < 32))) = true := by simp; omega
    have b : (x == 0 || true && (decide (0 < x) && decide (x < 32))) = true := by simp; omega
    have c : (n == 0 || true && (decide (0 ≤ n) && decide (n ≤ 4095))) = true := by simp; omega
    rw [a, b, c]
    decide
theorem num_31 {op x : Int} (h : op = 58 ∨ op = 59) (x0 : 0 ≤ x) (x1 : x < 32) : numB op x = true := by
  have e : withinB x 0 31 1 = true := by unfold withinB; simp [Int.tmod_one]; omega
  rcases h with rfl | rfl
  all_goals
    unfold numB
    rw [if_neg (by decide), if_neg (by decide), if_neg (by decide), if_neg (by decide), if_pos (by decide)]
    exact e
theorem is_csr_i {op d x n : Int} (h : op = 58 ∨ op = 59) (d0 : 0 ≤ d) (d1 : d < 32) (x0 : 0 ≤ x) (x1 : x < 32) (n0 : 0 ≤ n) (n1 : n < 4096) : isB op d 0 0 x n = true := by
  rcases h with rfl | rfl
  all_goals
    unfold isB regB csrB immB
    rw [show hasRd _ = true by decide, show hasRs1 _ = false by decide, show hasRs2 _ = false by decide, show hasCsr _ = true by decide, show hasNum _ = true by decide]
    have a : (d == 0 || true && (decide (0 < d) && decide (d < 32))) = true := by simp; omega
    have c : (n == 0 || true && (decide (0 ≤ n) && decide (n ≤ 4095))) = true := by simp; omega
    rw [a, c, if_pos rfl, num_31 (by decide) x0 x1]
    decide
theorem ins_csr (S : StM) {op rd rs1 rs2 imm csr : Int} (hi : isB op rd rs1 rs2 imm csr = true) (h0 : 54 ≤ op) (h1 : op ≤ 59) : insC S op rd rs1 rs2 imm csr = csrC S csr (wrB op rs1 imm) := by
  unfold insC
  rw [hi, ← cls_9 h0 h1]
  rfl
theorem csr_less (S : StM) (n : Int) (h : (csrC S n true == 0) = true) : (csrC S n false == 0) = true := by
  by_cases hn : 3072 ≤ n
  · have e : csrC S n true = 2 := by unfold csrC; rw [decide_eq_true hn]; cases okC n <;> rfl
    rw [e] at h
    cases h
  · have e : csrC S n true = csrC S n false := by unfold csrC; rw [decide_eq_false hn]; simp
    rw [← e]; exact h
set_option maxRecDepth 10000 in
set_option maxHeartbeats 2000000 in
theorem lreads_any (S : StM) (rd m v : Int) (hS : S.Ok) (r0 : 0 ≤ rd) (r1 : rd ≤ 255) (m0 : 0 ≤ m) (m1 : m ≤ 65535) (v0 : 0 ≤ v) (v1 : v ≤ 255) {W : World} (hT : Tab9 W) :
    Calls Tryd.prog 7 #[.agg (rowOf 65 (stF S)), .int .u8 rd, .int .u16 m, .int .u8 v] W fun e w' => e = .returned (.bool true) ∧ Kept W w' := by
  have h0 := st_new W S
  have k0 : Kept W (W.alloc (.cells (rowOf 65 (stF S)) 26)) := (Only.refl _ W).alloc _
  go_enter Tryd.func7, Tryd.ntmps7
  go_wp2_with fail
  refine (known9_any hT k0).mono ?_
  rintro e w1 ⟨rfl, g1⟩
  have k1 := k0.then g1
  have h1 := h0.kept g1
  go_wp2_with (refine wpList_load_is (by rfl) 26 _ rfl rfl h1 _ Tryd.underlying26 rfl st_size ?_)
  refine (rclean_any S _).mono ?_
  rintro e w2 ⟨rfl, g2⟩
  have hC := cleanM_cl hS
  have k2 := k1.then g2
  generalize cleanM S = T at hC ⊢
  have h3 := st_new w2 T
  have k3 : Kept W (w2.alloc (.cells (rowOf 65 (stF T)) 26)) := k2.alloc _
  go_wp2_with (first | refine wpList_alloc_is rfl 26 rfl (rowOf 65 zF) st_zero ?_ | (refine wpList_store_is rfl 26 _ _ rfl rfl rfl (row_alloc _ 65 zF _) st_size (fun i _ => stF_one _ i) ?_; rw [World.setRow_alloc_new]) | refine wpList_load_is (by rfl) 26 _ rfl rfl h3 _ Tryd.underlying26 rfl st_size ?_)
  have n0 : 0 ≤ m % 4096 := by omega
  have n1 : m % 4096 < 4096 := by omega
  have d0 : 0 ≤ rd % 32 := by omega
  have d1 : rd % 32 < 32 := by omega
  have x0 : 0 ≤ v % 31 + 1 := by omega
  have x1 : v % 31 + 1 < 32 := by omega
  have xz : (v % 31 + 1 != 0) = true := bne_iff_ne.2 (by omega)
  have ea : insC T 55 (rd % 32) 0 0 0 (m % 4096) = csrC T (m % 4096) false := ins_csr T (is_csr_r (.inr rfl) d0 d1 (by omega) (by omega) n0 n1) (by omega) (by omega)
  have eb : insC T 55 (rd % 32) (v % 31 + 1) 0 0 (m % 4096) = csrC T (m % 4096) true := by
    rw [ins_csr T (is_csr_r (.inr rfl) d0 d1 x0 x1 n0 n1) (by omega) (by omega)]
    unfold wrB
    rw [xz]
    rfl
  have ec : insC T 54 (rd % 32) 0 0 0 (m % 4096) = csrC T (m % 4096) true := ins_csr T (is_csr_r (.inl rfl) d0 d1 (by omega) (by omega) n0 n1) (by omega) (by omega)
  have ee : insC T 59 (rd % 32) 0 0 0 (m % 4096) = csrC T (m % 4096) false := ins_csr T (is_csr_i (.inr rfl) d0 d1 (by omega) (by omega) n0 n1) (by omega) (by omega)
  have ef : insC T 58 (rd % 32) 0 0 (v % 31 + 1) (m % 4096) = csrC T (m % 4096) true := by
    rw [ins_csr T (is_csr_i (.inl rfl) d0 d1 x0 x1 n0 n1) (by omega) (by omega)]
    unfold wrB
    rw [xz]
    rfl
  have hless := csr_less T (m % 4096)
  clear d0 d1 x1 xz n0 n1
  refine (lcsr_any (hT.kept k3) hC _ _).mono ?_
  rintro e w4 ⟨rfl, g4⟩
  have h4 := h3.kept g4
  have k4 := k3.then g4
  go_wp2_with (refine wpList_load_is (by rfl) 26 _ rfl rfl h4 _ Tryd.underlying26 rfl st_size ?_)
  refine (lcsr_any (hT.kept k4) hC _ _).mono ?_
  rintro e w5 ⟨rfl, g5⟩
  have h5 := h4.kept g5
  have k5 := k4.then g5
  go_wp2_with (refine wpList_load_is (by rfl) 26 _ rfl rfl h5 _ Tryd.underlying26 rfl st_size ?_)
  refine (linsn_any (hT.kept k5) hC _ _ _ _ _ _).mono ?_
  rintro e w6 ⟨rfl, g6⟩
  rw [ea]
  have h6 := h5.kept g6
  have k6 := k5.then g6
  go_wp2_with (refine wpList_load_is (by rfl) 26 _ rfl rfl h6 _ Tryd.underlying26 rfl st_size ?_)
  refine (linsn_any (hT.kept k6) hC _ _ _ _ _ _).mono ?_
  rintro e w7 ⟨rfl, g7⟩
  rw [eb]
  have h7 := h6.kept g7
  have k7 := k6.then g7
  go_wp2_with (refine wpList_load_is (by rfl) 26 _ rfl rfl h7 _ Tryd.underlying26 rfl st_size ?_)
  refine (linsn_any (hT.kept k7) hC _ _ _ _ _ _).mono ?_
  rintro e w8 ⟨rfl, g8⟩
  rw [ec]
  have h8 := h7.kept g8
  have k8 := k7.then g8
  go_wp2_with (refine wpList_load_is (by rfl) 26 _ rfl rfl h8 _ Tryd.underlying26 rfl st_size ?_)
  refine (linsn_any (hT.kept k8) hC _ _ _ _ _ _).mono ?_
  rintro e w9 ⟨rfl, g9⟩
  rw [ee]
  have h9 := h8.kept g9
  have k9 := k8.then g9
  go_wp2_with (refine wpList_load_is (by rfl) 26 _ rfl rfl h9 _ Tryd.underlying26 rfl st_size ?_)
  refine (linsn_any (hT.kept k9) hC _ _ _ _ _ _).mono ?_
  rintro e w10 ⟨rfl, g10⟩
  rw [ef]
  have h10 := h9.kept g10
  have k10 := k9.then g10
  clear ea eb ec ee ef
  generalize csrC T (m % 4096) false = cF at hless ⊢
  generalize csrC T (m % 4096) true = cT at hless ⊢
  generalize (cF == 0) = bF at hless ⊢
  generalize (cT == 0) = bT at hless ⊢
  cases bT <;> cases bF
  case true.false => exact absurd (hless rfl) (by decide)
  all_goals
    go_wp2
    go_ret
    exact ⟨rfl, k10⟩
end Go.Proofs.YthmanpfooegbcaaDoor
