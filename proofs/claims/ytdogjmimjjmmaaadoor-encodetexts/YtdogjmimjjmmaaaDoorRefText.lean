/-
  What the document's Text answers (the reference of layers 3 and 4): walked whole, for every instruction.
-/
import Derived.Test.YtdogjmimjjmmaaaDoorRefDigits
import Derived.Deep.RegionHeld3
namespace Go.Proofs.YtdogjmimjjmmaaaDoor
open Go.RowKit
structure GT (a b : World) : Prop where
  g : Grown a b
theorem has_ways (op : Int) : (hasRd op = true ∧ hasCsr op = false ∧ hasRs1 op = false ∧ hasRs2 op = false ∧ hasNum op = true) ∨ (hasRd op = true ∧ hasCsr op = false ∧ hasRs1 op = true ∧ hasRs2 op = false ∧ hasNum op = true) ∨ (hasRd op = false ∧ hasCsr op = false ∧ hasRs1 op = true ∧ hasRs2 op = true ∧ hasNum op = true) ∨ (hasRd op = true ∧ hasCsr op = false ∧ hasRs1 op = true ∧ hasRs2 op = true ∧ hasNum op = false) ∨ (hasRd op = false ∧ hasCsr op = false ∧ hasRs1 op = false ∧ hasRs2 op = false ∧ hasNum op = false) ∨ (hasRd op = true ∧ hasCsr op = true ∧ hasRs1 op = true ∧ hasRs2 op = false ∧ hasNum op = false) ∨ (hasRd op = true ∧ hasCsr op = true ∧ hasRs1 op = false ∧ hasRs2 op = false ∧ hasNum op = true) ∨ (hasRd op = false ∧ hasCsr op = false ∧ hasRs1 op = true ∧ hasRs2 op = true ∧ hasNum op = false) ∨ (hasRd op = true ∧ hasCsr op = false ∧ hasRs1 op = true ∧ hasRs2 op = false ∧ hasNum op = false) :=
  op_cases (p := fun op => (hasRd op = true ∧ hasCsr op = false ∧ hasRs1 op = false ∧ hasRs2 op = false ∧ hasNum op = true) ∨ (hasRd op = true ∧ hasCsr op = false ∧ hasRs1 op = true ∧ hasRs2 op = false ∧ hasNum op = true) ∨ (hasRd op = false ∧ hasCsr op = false ∧ hasRs1 op = true ∧ hasRs2 op = true ∧ hasNum op = true) ∨ (hasRd op = true ∧ hasCsr op = false ∧ hasRs1 op = true ∧ hasRs2 op = true ∧ hasNum op = false) ∨ (hasRd op = false ∧ hasCsr op = false ∧ hasRs1 op = false ∧ hasRs2 op = false ∧ hasNum op = false) ∨ (hasRd op = true ∧ hasCsr op = true ∧ hasRs1 op = true ∧ hasRs2 op = false ∧ hasNum op = false) ∨ (hasRd op = true ∧ hasCsr op = true ∧ hasRs1 op = false ∧ hasRs2 op = false ∧ hasNum op = true) ∨ (hasRd op = false ∧ hasCsr op = false ∧ hasRs1 op = true ∧ hasRs2 op = true ∧ hasNum op = false) ∨ (hasRd op = true ∧ hasCsr op = false ∧ hasRs1 op = true ∧ hasRs2 op = false ∧ hasNum op = false)) (by decide +kernel) (fun op h => by rw [rd_out h, rs1_out h, rs2_out h, csr_out h, num_out h]; simp) op
theorem digits_from {W w : World} (hg : Grown W w) (n : Int) (l : List UInt8) (hl : dgI n = l) (h0 : -9223372036854775808 < n) (h1 : n < 9223372036854775808) :
    Calls Tryd.prog 30 #[.int .i64 n] w fun e w' => e = .returned (.string (bs l)) ∧ Grown W w' := by
  rw [← hl]
  exact (digits_any n h0 h1 w).mono fun _ _ h => ⟨h.1, Grown.trans' hg h.2⟩
theorem rtis_from {W w : World} (hg : Grown W w) (op rd rs1 rs2 imm csr : Int) :
    Calls Tryd.prog 21 #[.agg #[.int .i64 op, .int .i64 rd, .int .i64 rs1, .int .i64 rs2, .int .i64 imm, .int .i64 csr]] w fun e w' => e = .returned (.bool (isB op rd rs1 rs2 imm csr)) ∧ Grown W w' :=
  (ris_any op rd rs1 rs2 imm csr w).mono fun _ _ h => ⟨h.1, Grown.trans' hg h.2⟩
theorem name_bs (op : Int) : nameS op = bs (nameL op) := by
  unfold nameL bs
  cases nameS op
  simp
theorem rtname_from {W w : World} (hg : Grown W w) (op : Int) :
    Calls Tryd.prog 31 #[.int .i64 op] w fun e w' => e = .returned (.string (bs (nameL op))) ∧ Grown W w' := by
  rw [← name_bs]
  exact (rname_any op w).mono fun _ _ h => ⟨h.1, Grown.trans' hg h.2⟩
theorem name_len (op : Int) : (nameL op).length ≤ 11 :=
  op_cases (p := fun op => (nameL op).length ≤ 11) (by decide +kernel) (fun op h => by unfold nameL; rw [name_out h]; decide) op
theorem text_bounds {op rd rs1 rs2 imm csr : Int} (h : isB op rd rs1 rs2 imm csr = true) : (0 ≤ rd ∧ rd < 32) ∧ (0 ≤ rs1 ∧ rs1 < 32) ∧ (0 ≤ rs2 ∧ rs2 < 32) ∧ (0 ≤ csr ∧ csr < 4096) ∧ (-2147483648 ≤ imm ∧ imm ≤ 2147483647) := by
  simp only [isB, Bool.and_eq_true] at h
  obtain ⟨_, i1, i2, i3, i4, i5⟩ := h
  exact ⟨(reg_facts i1).1, (reg_facts i2).1, (reg_facts i3).1, (csr_facts i4).1, (imm_facts i5).1⟩
theorem eq_no {a : List UInt8} (h : a ≠ []) : (bs a).toList.isEmpty = false := by
  unfold bs
  rw [ByteArray.toList_mk]
  cases a
  · exact absurd rfl h
  · rfl
theorem slice1 (w : World) (a : List UInt8) (h : a ≠ []) : (Instr.slice 9 (.string (bs a)) (some (.int .i64 1)) none none).run Tryd.prog w = .ok (.string (bs a.tail)) w := by
  rw [run_slice_string_from_if w _ _ _ _ (by kernel_rfl)]
  have hl : 0 < a.length := List.length_pos_iff.2 h
  rw [if_pos ⟨by decide, by rw [bs_size]; omega⟩]
  congr 2
  apply ByteArray.ext
  cases a with
  | nil => exact absurd rfl h
  | cons x xs => simp [bs, ByteArray.size]
set_option maxRecDepth 100000 in
set_option maxHeartbeats 1000000 in
theorem text_none (op rd rs1 rs2 imm csr : Int) (h : isB op rd rs1 rs2 imm csr = false) (W : World) :
    Calls Tryd.prog 13 #[.agg #[.int .i64 op, .int .i64 rd, .int .i64 rs1, .int .i64 rs2, .int .i64 imm, .int .i64 csr]] W fun e w' => e = .returned (.string ⟨#[]⟩) ∧ Grown W w' := by
  have hg := Grown.refl (W.alloc (.cells #[.int .i64 op, .int .i64 rd, .int .i64 rs1, .int .i64 rs2, .int .i64 imm, .int .i64 csr] 23))
  go_enter Tryd.func13, Tryd.ntmps13
  go_wp2_with (go_at_call 21; refine (rtis_from hg _ _ _ _ _ _).mono ?_; rintro e w' ⟨rfl, hg⟩)
  go_ret
  exact ⟨rfl, Grown.trans' ((Grown.refl _).alloc _ _) hg⟩
set_option maxRecDepth 100000 in
set_option maxHeartbeats 2000000 in
theorem text_0 (op rd rs1 rs2 imm csr : Int) (h : isB op rd rs1 rs2 imm csr = true) (p1 : hasRd op = true) (p4 : hasCsr op = false) (p2 : hasRs1 op = false) (p3 : hasRs2 op = false) (p5 : hasNum op = true) (W : World) :
    Calls Tryd.prog 13 #[.agg #[.int .i64 op, .int .i64 rd, .int .i64 rs1, .int .i64 rs2, .int .i64 imm, .int .i64 csr]] W fun e w' => e = .returned (.string (bs (txtL op rd rs1 rs2 imm csr))) ∧ Grown W w' := by
  obtain ⟨b1, b2, b3, b4, b5⟩ := text_bounds h
  obtain ⟨D0, hD0⟩ : ∃ l : List UInt8, dgI rd = l := ⟨_, rfl⟩
  have lD0 : D0.length ≤ 21 := by rw [← hD0]; exact dgI_len _
  obtain ⟨D1, hD1⟩ : ∃ l : List UInt8, dgI imm = l := ⟨_, rfl⟩
  have lD1 : D1.length ≤ 21 := by rw [← hD1]; exact dgI_len _
  obtain ⟨M0, hM0⟩ : ∃ l : List UInt8, ([] : List UInt8) ++ [44, 120] = l := ⟨_, rfl⟩
  have lM0 : M0.length ≤ 2 := by rw [← hM0]; simp
  have v0 : ∀ w : World, (Op.stringOp .add (⟨#[]⟩ : ByteArray) ⟨#[44, 120]⟩).run Tryd.prog w = .ok (.string (bs M0)) w := by
    rw [← hM0]
    exact add_bs Tryd.prog ([] : List UInt8) [44, 120] (by simp)
  obtain ⟨S0, hS0⟩ : ∃ l : List UInt8, M0 ++ D0 = l := ⟨_, rfl⟩
  have lS0 : S0.length ≤ 23 := by rw [← hS0]; simp; omega
  have x0 : ∀ w : World, (Op.stringOp .add (bs M0) (bs D0)).run Tryd.prog w = .ok (.string (bs S0)) w := by
    rw [← hS0]
    exact add_bs Tryd.prog M0 D0 (by omega)
  obtain ⟨M1, hM1⟩ : ∃ l : List UInt8, S0 ++ [44] = l := ⟨_, rfl⟩
  have lM1 : M1.length ≤ 27 := by rw [← hM1]; simp; omega
  have v1 : ∀ w : World, (Op.stringOp .add (bs S0) ⟨#[44]⟩).run Tryd.prog w = .ok (.string (bs M1)) w := by
    rw [← hM1]
    exact add_bs Tryd.prog S0 [44] (by simp; omega)
  obtain ⟨S1, hS1⟩ : ∃ l : List UInt8, M1 ++ D1 = l := ⟨_, rfl⟩
  have lS1 : S1.length ≤ 48 := by rw [← hS1]; simp; omega
  have x1 : ∀ w : World, (Op.stringOp .add (bs M1) (bs D1)).run Tryd.prog w = .ok (.string (bs S1)) w := by
    rw [← hS1]
    exact add_bs Tryd.prog M1 D1 (by omega)
  have ht : tailL op rd rs1 rs2 imm csr = S1 := by
    unfold tailL partR partN
    rw [p1, p2, p3, p4, p5, hD0, hD1]
    simp [← hS1, ← hM1, ← hS0, ← hM0]
  have hne : S1 ≠ [] := by rw [← hS1, ← hM1]; simp
  have hnl := name_len op
  have he : txtL op rd rs1 rs2 imm csr = nameL op ++ 32 :: S1.tail := by
    unfold txtL
    rw [ht, if_neg hne]
  rw [he]
  have hE := eq_no hne
  have hL := fun w => slice1 w S1 hne
  have lt : S1.tail.length ≤ 50 := by rw [List.length_tail]; omega
  have y1 : ∀ w : World, (Op.stringOp .add (bs (nameL op)) ⟨#[32]⟩).run Tryd.prog w = .ok (.string (bs (nameL op ++ [32]))) w := add_bs Tryd.prog (nameL op) [32] (by simp; omega)
  have y2 : ∀ w : World, (Op.stringOp .add (bs (nameL op ++ [32])) (bs S1.tail)).run Tryd.prog w = .ok (.string (bs (nameL op ++ 32 :: S1.tail))) w := by
    rw [show nameL op ++ 32 :: S1.tail = nameL op ++ [32] ++ S1.tail by simp]
    exact add_bs Tryd.prog _ _ (by simp; omega)
  clear he ht hne lt hnl hM0 hS0 lM0 lS0 lD0 hM1 hS1 lM1 lS1 lD1
  have hg := Grown.refl (W.alloc (.cells #[.int .i64 op, .int .i64 rd, .int .i64 rs1, .int .i64 rs2, .int .i64 imm, .int .i64 csr] 23))
  go_enter Tryd.func13, Tryd.ntmps13
  go_wp2_with (first | (go_at_call 21; refine (rtis_from hg _ _ _ _ _ _).mono ?_; rintro e w' ⟨rfl, hg⟩; obtain ⟨c0, c1, c2, c3, c4, c5⟩ := (Six.new _ _ _ _ _ _ _ _).grown hg) | (go_at_call 29; refine (rparts_any _ _).mono ?_; rintro e w' ⟨rfl, rfl⟩))
  refine (digits_from hg rd D0 hD0 (by omega) (by omega)).mono ?_
  rintro e w0 ⟨rfl, hg⟩
  obtain ⟨c0, c1, c2, c3, c4, c5⟩ := (Six.new _ _ _ _ _ _ _ _).grown hg
  go_wp2_with fail
  refine (digits_from hg imm D1 hD1 (by omega) (by omega)).mono ?_
  rintro e w1 ⟨rfl, hg⟩
  obtain ⟨c0, c1, c2, c3, c4, c5⟩ := (Six.new _ _ _ _ _ _ _ _).grown hg
  go_wp2_with fail
  clear c1 c2 c3 c4 c5 hD0 v0 x0 hD1 v1 x1
  have hq : GT (W.alloc (.cells #[.int .i64 op, .int .i64 rd, .int .i64 rs1, .int .i64 rs2, .int .i64 imm, .int .i64 csr] 23)) w1.drew := ⟨hg.drew⟩
  go_region_held3 (fun w' => GT (W.alloc (.cells #[.int .i64 op, .int .i64 rd, .int .i64 rs1, .int .i64 rs2, .int .i64 imm, .int .i64 csr] 23)) w' ∧ w'.cell? ⟨W.heap.size, 0, none⟩ = some (.int .i64 op)) (exact ⟨hq, ((Six.new _ _ _ _ _ _ _ _).grown hq.g).c0⟩) (first | (go_at_call 31; refine (rtname_from (GT.g (by assumption)) _).mono ?_; rintro e w' ⟨rfl, hq⟩; replace hq : GT _ _ := ⟨hq⟩))
  go_wp2
  go_ret
  exact ⟨rfl, Grown.trans' ((Grown.refl _).alloc _ _) hq.g⟩
set_option maxRecDepth 100000 in
set_option maxHeartbeats 2000000 in
theorem text_1 (op rd rs1 rs2 imm csr : Int) (h : isB op rd rs1 rs2 imm csr = true) (p1 : hasRd op = true) (p4 : hasCsr op = false) (p2 : hasRs1 op = true) (p3 : hasRs2 op = false) (p5 : hasNum op = true) (W : World) :
    Calls Tryd.prog 13 #[.agg #[.int .i64 op, .int .i64 rd, .int .i64 rs1, .int .i64 rs2, .int .i64 imm, .int .i64 csr]] W fun e w' => e = .returned (.string (bs (txtL op rd rs1 rs2 imm csr))) ∧ Grown W w' := by
  obtain ⟨b1, b2, b3, b4, b5⟩ := text_bounds h
  obtain ⟨D0, hD0⟩ : ∃ l : List UInt8, dgI rd = l := ⟨_, rfl⟩
  have lD0 : D0.length ≤ 21 := by rw [← hD0]; exact dgI_len _
  obtain ⟨D1, hD1⟩ : ∃ l : List UInt8, dgI rs1 = l := ⟨_, rfl⟩
  have lD1 : D1.length ≤ 21 := by rw [← hD1]; exact dgI_len _
  obtain ⟨D2, hD2⟩ : ∃ l : List UInt8, dgI imm = l := ⟨_, rfl⟩
  have lD2 : D2.length ≤ 21 := by rw [← hD2]; exact dgI_len _
  obtain ⟨M0, hM0⟩ : ∃ l : List UInt8, ([] : List UInt8) ++ [44, 120] = l := ⟨_, rfl⟩
  have lM0 : M0.length ≤ 2 := by rw [← hM0]; simp
  have v0 : ∀ w : World, (Op.stringOp .add (⟨#[]⟩ : ByteArray) ⟨#[44, 120]⟩).run Tryd.prog w = .ok (.string (bs M0)) w := by
    rw [← hM0]
    exact add_bs Tryd.prog ([] : List UInt8) [44, 120] (by simp)
  obtain ⟨S0, hS0⟩ : ∃ l : List UInt8, M0 ++ D0 = l := ⟨_, rfl⟩
  have lS0 : S0.length ≤ 23 := by rw [← hS0]; simp; omega
  have x0 : ∀ w : World, (Op.stringOp .add (bs M0) (bs D0)).run Tryd.prog w = .ok (.string (bs S0)) w := by
    rw [← hS0]
    exact add_bs Tryd.prog M0 D0 (by omega)
  obtain ⟨M1, hM1⟩ : ∃ l : List UInt8, S0 ++ [44, 120] = l := ⟨_, rfl⟩
  have lM1 : M1.length ≤ 27 := by rw [← hM1]; simp; omega
  have v1 : ∀ w : World, (Op.stringOp .add (bs S0) ⟨#[44, 120]⟩).run Tryd.prog w = .ok (.string (bs M1)) w := by
    rw [← hM1]
    exact add_bs Tryd.prog S0 [44, 120] (by simp; omega)
  obtain ⟨S1, hS1⟩ : ∃ l : List UInt8, M1 ++ D1 = l := ⟨_, rfl⟩
  have lS1 : S1.length ≤ 48 := by rw [← hS1]; simp; omega
  have x1 : ∀ w : World, (Op.stringOp .add (bs M1) (bs D1)).run Tryd.prog w = .ok (.string (bs S1)) w := by
    rw [← hS1]
    exact add_bs Tryd.prog M1 D1 (by omega)
  obtain ⟨M2, hM2⟩ : ∃ l : List UInt8, S1 ++ [44] = l := ⟨_, rfl⟩
  have lM2 : M2.length ≤ 52 := by rw [← hM2]; simp; omega
  have v2 : ∀ w : World, (Op.stringOp .add (bs S1) ⟨#[44]⟩).run Tryd.prog w = .ok (.string (bs M2)) w := by
    rw [← hM2]
    exact add_bs Tryd.prog S1 [44] (by simp; omega)
  obtain ⟨S2, hS2⟩ : ∃ l : List UInt8, M2 ++ D2 = l := ⟨_, rfl⟩
  have lS2 : S2.length ≤ 73 := by rw [← hS2]; simp; omega
  have x2 : ∀ w : World, (Op.stringOp .add (bs M2) (bs D2)).run Tryd.prog w = .ok (.string (bs S2)) w := by
    rw [← hS2]
    exact add_bs Tryd.prog M2 D2 (by omega)
  have ht : tailL op rd rs1 rs2 imm csr = S2 := by
    unfold tailL partR partN
    rw [p1, p2, p3, p4, p5, hD0, hD1, hD2]
    simp [← hS2, ← hM2, ← hS1, ← hM1, ← hS0, ← hM0]
  have hne : S2 ≠ [] := by rw [← hS2, ← hM2]; simp
  have hnl := name_len op
  have he : txtL op rd rs1 rs2 imm csr = nameL op ++ 32 :: S2.tail := by
    unfold txtL
    rw [ht, if_neg hne]
  rw [he]
  have hE := eq_no hne
  have hL := fun w => slice1 w S2 hne
  have lt : S2.tail.length ≤ 75 := by rw [List.length_tail]; omega
  have y1 : ∀ w : World, (Op.stringOp .add (bs (nameL op)) ⟨#[32]⟩).run Tryd.prog w = .ok (.string (bs (nameL op ++ [32]))) w := add_bs Tryd.prog (nameL op) [32] (by simp; omega)
  have y2 : ∀ w : World, (Op.stringOp .add (bs (nameL op ++ [32])) (bs S2.tail)).run Tryd.prog w = .ok (.string (bs (nameL op ++ 32 :: S2.tail))) w := by
    rw [show nameL op ++ 32 :: S2.tail = nameL op ++ [32] ++ S2.tail by simp]
    exact add_bs Tryd.prog _ _ (by simp; omega)
  clear he ht hne lt hnl hM0 hS0 lM0 lS0 lD0 hM1 hS1 lM1 lS1 lD1 hM2 hS2 lM2 lS2 lD2
  have hg := Grown.refl (W.alloc (.cells #[.int .i64 op, .int .i64 rd, .int .i64 rs1, .int .i64 rs2, .int .i64 imm, .int .i64 csr] 23))
  go_enter Tryd.func13, Tryd.ntmps13
  go_wp2_with (first | (go_at_call 21; refine (rtis_from hg _ _ _ _ _ _).mono ?_; rintro e w' ⟨rfl, hg⟩; obtain ⟨c0, c1, c2, c3, c4, c5⟩ := (Six.new _ _ _ _ _ _ _ _).grown hg) | (go_at_call 29; refine (rparts_any _ _).mono ?_; rintro e w' ⟨rfl, rfl⟩))
  refine (digits_from hg rd D0 hD0 (by omega) (by omega)).mono ?_
  rintro e w0 ⟨rfl, hg⟩
  obtain ⟨c0, c1, c2, c3, c4, c5⟩ := (Six.new _ _ _ _ _ _ _ _).grown hg
  go_wp2_with fail
  refine (digits_from hg rs1 D1 hD1 (by omega) (by omega)).mono ?_
  rintro e w1 ⟨rfl, hg⟩
  obtain ⟨c0, c1, c2, c3, c4, c5⟩ := (Six.new _ _ _ _ _ _ _ _).grown hg
  go_wp2_with fail
  refine (digits_from hg imm D2 hD2 (by omega) (by omega)).mono ?_
  rintro e w2 ⟨rfl, hg⟩
  obtain ⟨c0, c1, c2, c3, c4, c5⟩ := (Six.new _ _ _ _ _ _ _ _).grown hg
  go_wp2_with fail
  clear c1 c2 c3 c4 c5 hD0 v0 x0 hD1 v1 x1 hD2 v2 x2
  have hq : GT (W.alloc (.cells #[.int .i64 op, .int .i64 rd, .int .i64 rs1, .int .i64 rs2, .int .i64 imm, .int .i64 csr] 23)) w2.drew := ⟨hg.drew⟩
  go_region_held3 (fun w' => GT (W.alloc (.cells #[.int .i64 op, .int .i64 rd, .int .i64 rs1, .int .i64 rs2, .int .i64 imm, .int .i64 csr] 23)) w' ∧ w'.cell? ⟨W.heap.size, 0, none⟩ = some (.int .i64 op)) (exact ⟨hq, ((Six.new _ _ _ _ _ _ _ _).grown hq.g).c0⟩) (first | (go_at_call 31; refine (rtname_from (GT.g (by assumption)) _).mono ?_; rintro e w' ⟨rfl, hq⟩; replace hq : GT _ _ := ⟨hq⟩))
  go_wp2
  go_ret
  exact ⟨rfl, Grown.trans' ((Grown.refl _).alloc _ _) hq.g⟩
set_option maxRecDepth 100000 in
set_option maxHeartbeats 2000000 in
theorem text_2 (op rd rs1 rs2 imm csr : Int) (h : isB op rd rs1 rs2 imm csr = true) (p1 : hasRd op = false) (p4 : hasCsr op = false) (p2 : hasRs1 op = true) (p3 : hasRs2 op = true) (p5 : hasNum op = true) (W : World) :
    Calls Tryd.prog 13 #[.agg #[.int .i64 op, .int .i64 rd, .int .i64 rs1, .int .i64 rs2, .int .i64 imm, .int .i64 csr]] W fun e w' => e = .returned (.string (bs (txtL op rd rs1 rs2 imm csr))) ∧ Grown W w' := by
  obtain ⟨b1, b2, b3, b4, b5⟩ := text_bounds h
  obtain ⟨D0, hD0⟩ : ∃ l : List UInt8, dgI rs1 = l := ⟨_, rfl⟩
  have lD0 : D0.length ≤ 21 := by rw [← hD0]; exact dgI_len _
  obtain ⟨D1, hD1⟩ : ∃ l : List UInt8, dgI rs2 = l := ⟨_, rfl⟩
  have lD1 : D1.length ≤ 21 := by rw [← hD1]; exact dgI_len _
  obtain ⟨D2, hD2⟩ : ∃ l : List UInt8, dgI imm = l := ⟨_, rfl⟩
  have lD2 : D2.length ≤ 21 := by rw [← hD2]; exact dgI_len _
  obtain ⟨M0, hM0⟩ : ∃ l : List UInt8, ([] : List UInt8) ++ [44, 120] = l := ⟨_, rfl⟩
  have lM0 : M0.length ≤ 2 := by rw [← hM0]; simp
  have v0 : ∀ w : World, (Op.stringOp .add (⟨#[]⟩ : ByteArray) ⟨#[44, 120]⟩).run Tryd.prog w = .ok (.string (bs M0)) w := by
    rw [← hM0]
    exact add_bs Tryd.prog ([] : List UInt8) [44, 120] (by simp)
  obtain ⟨S0, hS0⟩ : ∃ l : List UInt8, M0 ++ D0 = l := ⟨_, rfl⟩
  have lS0 : S0.length ≤ 23 := by rw [← hS0]; simp; omega
  have x0 : ∀ w : World, (Op.stringOp .add (bs M0) (bs D0)).run Tryd.prog w = .ok (.string (bs S0)) w := by
    rw [← hS0]
    exact add_bs Tryd.prog M0 D0 (by omega)
  obtain ⟨M1, hM1⟩ : ∃ l : List UInt8, S0 ++ [44, 120] = l := ⟨_, rfl⟩
  have lM1 : M1.length ≤ 27 := by rw [← hM1]; simp; omega
  have v1 : ∀ w : World, (Op.stringOp .add (bs S0) ⟨#[44, 120]⟩).run Tryd.prog w = .ok (.string (bs M1)) w := by
    rw [← hM1]
    exact add_bs Tryd.prog S0 [44, 120] (by simp; omega)
  obtain ⟨S1, hS1⟩ : ∃ l : List UInt8, M1 ++ D1 = l := ⟨_, rfl⟩
  have lS1 : S1.length ≤ 48 := by rw [← hS1]; simp; omega
  have x1 : ∀ w : World, (Op.stringOp .add (bs M1) (bs D1)).run Tryd.prog w = .ok (.string (bs S1)) w := by
    rw [← hS1]
    exact add_bs Tryd.prog M1 D1 (by omega)
  obtain ⟨M2, hM2⟩ : ∃ l : List UInt8, S1 ++ [44] = l := ⟨_, rfl⟩
  have lM2 : M2.length ≤ 52 := by rw [← hM2]; simp; omega
  have v2 : ∀ w : World, (Op.stringOp .add (bs S1) ⟨#[44]⟩).run Tryd.prog w = .ok (.string (bs M2)) w := by
    rw [← hM2]
    exact add_bs Tryd.prog S1 [44] (by simp; omega)
  obtain ⟨S2, hS2⟩ : ∃ l : List UInt8, M2 ++ D2 = l := ⟨_, rfl⟩
  have lS2 : S2.length ≤ 73 := by rw [← hS2]; simp; omega
  have x2 : ∀ w : World, (Op.stringOp .add (bs M2) (bs D2)).run Tryd.prog w = .ok (.string (bs S2)) w := by
    rw [← hS2]
    exact add_bs Tryd.prog M2 D2 (by omega)
  have ht : tailL op rd rs1 rs2 imm csr = S2 := by
    unfold tailL partR partN
    rw [p1, p2, p3, p4, p5, hD0, hD1, hD2]
    simp [← hS2, ← hM2, ← hS1, ← hM1, ← hS0, ← hM0]
  have hne : S2 ≠ [] := by rw [← hS2, ← hM2]; simp
  have hnl := name_len op
  have he : txtL op rd rs1 rs2 imm csr = nameL op ++ 32 :: S2.tail := by
    unfold txtL
    rw [ht, if_neg hne]
  rw [he]
  have hE := eq_no hne
  have hL := fun w => slice1 w S2 hne
  have lt : S2.tail.length ≤ 75 := by rw [List.length_tail]; omega
  have y1 : ∀ w : World, (Op.stringOp .add (bs (nameL op)) ⟨#[32]⟩).run Tryd.prog w = .ok (.string (bs (nameL op ++ [32]))) w := add_bs Tryd.prog (nameL op) [32] (by simp; omega)
  have y2 : ∀ w : World, (Op.stringOp .add (bs (nameL op ++ [32])) (bs S2.tail)).run Tryd.prog w = .ok (.string (bs (nameL op ++ 32 :: S2.tail))) w := by
    rw [show nameL op ++ 32 :: S2.tail = nameL op ++ [32] ++ S2.tail by simp]
    exact add_bs Tryd.prog _ _ (by simp; omega)
  clear he ht hne lt hnl hM0 hS0 lM0 lS0 lD0 hM1 hS1 lM1 lS1 lD1 hM2 hS2 lM2 lS2 lD2
  have hg := Grown.refl (W.alloc (.cells #[.int .i64 op, .int .i64 rd, .int .i64 rs1, .int .i64 rs2, .int .i64 imm, .int .i64 csr] 23))
  go_enter Tryd.func13, Tryd.ntmps13
  go_wp2_with (first | (go_at_call 21; refine (rtis_from hg _ _ _ _ _ _).mono ?_; rintro e w' ⟨rfl, hg⟩; obtain ⟨c0, c1, c2, c3, c4, c5⟩ := (Six.new _ _ _ _ _ _ _ _).grown hg) | (go_at_call 29; refine (rparts_any _ _).mono ?_; rintro e w' ⟨rfl, rfl⟩))
  refine (digits_from hg rs1 D0 hD0 (by omega) (by omega)).mono ?_
  rintro e w0 ⟨rfl, hg⟩
  obtain ⟨c0, c1, c2, c3, c4, c5⟩ := (Six.new _ _ _ _ _ _ _ _).grown hg
  go_wp2_with fail
  refine (digits_from hg rs2 D1 hD1 (by omega) (by omega)).mono ?_
  rintro e w1 ⟨rfl, hg⟩
  obtain ⟨c0, c1, c2, c3, c4, c5⟩ := (Six.new _ _ _ _ _ _ _ _).grown hg
  go_wp2_with fail
  refine (digits_from hg imm D2 hD2 (by omega) (by omega)).mono ?_
  rintro e w2 ⟨rfl, hg⟩
  obtain ⟨c0, c1, c2, c3, c4, c5⟩ := (Six.new _ _ _ _ _ _ _ _).grown hg
  go_wp2_with fail
  clear c1 c2 c3 c4 c5 hD0 v0 x0 hD1 v1 x1 hD2 v2 x2
  have hq : GT (W.alloc (.cells #[.int .i64 op, .int .i64 rd, .int .i64 rs1, .int .i64 rs2, .int .i64 imm, .int .i64 csr] 23)) w2.drew := ⟨hg.drew⟩
  go_region_held3 (fun w' => GT (W.alloc (.cells #[.int .i64 op, .int .i64 rd, .int .i64 rs1, .int .i64 rs2, .int .i64 imm, .int .i64 csr] 23)) w' ∧ w'.cell? ⟨W.heap.size, 0, none⟩ = some (.int .i64 op)) (exact ⟨hq, ((Six.new _ _ _ _ _ _ _ _).grown hq.g).c0⟩) (first | (go_at_call 31; refine (rtname_from (GT.g (by assumption)) _).mono ?_; rintro e w' ⟨rfl, hq⟩; replace hq : GT _ _ := ⟨hq⟩))
  go_wp2
  go_ret
  exact ⟨rfl, Grown.trans' ((Grown.refl _).alloc _ _) hq.g⟩
set_option maxRecDepth 100000 in
set_option maxHeartbeats 2000000 in
theorem text_3 (op rd rs1 rs2 imm csr : Int) (h : isB op rd rs1 rs2 imm csr = true) (p1 : hasRd op = true) (p4 : hasCsr op = false) (p2 : hasRs1 op = true) (p3 : hasRs2 op = true) (p5 : hasNum op = false) (W : World) :
    Calls Tryd.prog 13 #[.agg #[.int .i64 op, .int .i64 rd, .int .i64 rs1, .int .i64 rs2, .int .i64 imm, .int .i64 csr]] W fun e w' => e = .returned (.string (bs (txtL op rd rs1 rs2 imm csr))) ∧ Grown W w' := by
  obtain ⟨b1, b2, b3, b4, b5⟩ := text_bounds h
  obtain ⟨D0, hD0⟩ : ∃ l : List UInt8, dgI rd = l := ⟨_, rfl⟩
  have lD0 : D0.length ≤ 21 := by rw [← hD0]; exact dgI_len _
  obtain ⟨D1, hD1⟩ : ∃ l : List UInt8, dgI rs1 = l := ⟨_, rfl⟩
  have lD1 : D1.length ≤ 21 := by rw [← hD1]; exact dgI_len _
  obtain ⟨D2, hD2⟩ : ∃ l : List UInt8, dgI rs2 = l := ⟨_, rfl⟩
  have lD2 : D2.length ≤ 21 := by rw [← hD2]; exact dgI_len _
  obtain ⟨M0, hM0⟩ : ∃ l : List UInt8, ([] : List UInt8) ++ [44, 120] = l := ⟨_, rfl⟩
  have lM0 : M0.length ≤ 2 := by rw [← hM0]; simp
  have v0 : ∀ w : World, (Op.stringOp .add (⟨#[]⟩ : ByteArray) ⟨#[44, 120]⟩).run Tryd.prog w = .ok (.string (bs M0)) w := by
    rw [← hM0]
    exact add_bs Tryd.prog ([] : List UInt8) [44, 120] (by simp)
  obtain ⟨S0, hS0⟩ : ∃ l : List UInt8, M0 ++ D0 = l := ⟨_, rfl⟩
  have lS0 : S0.length ≤ 23 := by rw [← hS0]; simp; omega
  have x0 : ∀ w : World, (Op.stringOp .add (bs M0) (bs D0)).run Tryd.prog w = .ok (.string (bs S0)) w := by
    rw [← hS0]
    exact add_bs Tryd.prog M0 D0 (by omega)
  obtain ⟨M1, hM1⟩ : ∃ l : List UInt8, S0 ++ [44, 120] = l := ⟨_, rfl⟩
  have lM1 : M1.length ≤ 27 := by rw [← hM1]; simp; omega
  have v1 : ∀ w : World, (Op.stringOp .add (bs S0) ⟨#[44, 120]⟩).run Tryd.prog w = .ok (.string (bs M1)) w := by
    rw [← hM1]
    exact add_bs Tryd.prog S0 [44, 120] (by simp; omega)
  obtain ⟨S1, hS1⟩ : ∃ l : List UInt8, M1 ++ D1 = l := ⟨_, rfl⟩
  have lS1 : S1.length ≤ 48 := by rw [← hS1]; simp; omega
  have x1 : ∀ w : World, (Op.stringOp .add (bs M1) (bs D1)).run Tryd.prog w = .ok (.string (bs S1)) w := by
    rw [← hS1]
    exact add_bs Tryd.prog M1 D1 (by omega)
  obtain ⟨M2, hM2⟩ : ∃ l : List UInt8, S1 ++ [44, 120] = l := ⟨_, rfl⟩
  have lM2 : M2.length ≤ 52 := by rw [← hM2]; simp; omega
  have v2 : ∀ w : World, (Op.stringOp .add (bs S1) ⟨#[44, 120]⟩).run Tryd.prog w = .ok (.string (bs M2)) w := by
    rw [← hM2]
    exact add_bs Tryd.prog S1 [44, 120] (by simp; omega)
  obtain ⟨S2, hS2⟩ : ∃ l : List UInt8, M2 ++ D2 = l := ⟨_, rfl⟩
  have lS2 : S2.length ≤ 73 := by rw [← hS2]; simp; omega
  have x2 : ∀ w : World, (Op.stringOp .add (bs M2) (bs D2)).run Tryd.prog w = .ok (.string (bs S2)) w := by
    rw [← hS2]
    exact add_bs Tryd.prog M2 D2 (by omega)
  have ht : tailL op rd rs1 rs2 imm csr = S2 := by
    unfold tailL partR partN
    rw [p1, p2, p3, p4, p5, hD0, hD1, hD2]
    simp [← hS2, ← hM2, ← hS1, ← hM1, ← hS0, ← hM0]
  have hne : S2 ≠ [] := by rw [← hS2, ← hM2]; simp
  have hnl := name_len op
  have he : txtL op rd rs1 rs2 imm csr = nameL op ++ 32 :: S2.tail := by
    unfold txtL
    rw [ht, if_neg hne]
  rw [he]
  have hE := eq_no hne
  have hL := fun w => slice1 w S2 hne
  have lt : S2.tail.length ≤ 75 := by rw [List.length_tail]; omega
  have y1 : ∀ w : World, (Op.stringOp .add (bs (nameL op)) ⟨#[32]⟩).run Tryd.prog w = .ok (.string (bs (nameL op ++ [32]))) w := add_bs Tryd.prog (nameL op) [32] (by simp; omega)
  have y2 : ∀ w : World, (Op.stringOp .add (bs (nameL op ++ [32])) (bs S2.tail)).run Tryd.prog w = .ok (.string (bs (nameL op ++ 32 :: S2.tail))) w := by
    rw [show nameL op ++ 32 :: S2.tail = nameL op ++ [32] ++ S2.tail by simp]
    exact add_bs Tryd.prog _ _ (by simp; omega)
  clear he ht hne lt hnl hM0 hS0 lM0 lS0 lD0 hM1 hS1 lM1 lS1 lD1 hM2 hS2 lM2 lS2 lD2
  have hg := Grown.refl (W.alloc (.cells #[.int .i64 op, .int .i64 rd, .int .i64 rs1, .int .i64 rs2, .int .i64 imm, .int .i64 csr] 23))
  go_enter Tryd.func13, Tryd.ntmps13
  go_wp2_with (first | (go_at_call 21; refine (rtis_from hg _ _ _ _ _ _).mono ?_; rintro e w' ⟨rfl, hg⟩; obtain ⟨c0, c1, c2, c3, c4, c5⟩ := (Six.new _ _ _ _ _ _ _ _).grown hg) | (go_at_call 29; refine (rparts_any _ _).mono ?_; rintro e w' ⟨rfl, rfl⟩))
  refine (digits_from hg rd D0 hD0 (by omega) (by omega)).mono ?_
  rintro e w0 ⟨rfl, hg⟩
  obtain ⟨c0, c1, c2, c3, c4, c5⟩ := (Six.new _ _ _ _ _ _ _ _).grown hg
  go_wp2_with fail
  refine (digits_from hg rs1 D1 hD1 (by omega) (by omega)).mono ?_
  rintro e w1 ⟨rfl, hg⟩
  obtain ⟨c0, c1, c2, c3, c4, c5⟩ := (Six.new _ _ _ _ _ _ _ _).grown hg
  go_wp2_with fail
  refine (digits_from hg rs2 D2 hD2 (by omega) (by omega)).mono ?_
  rintro e w2 ⟨rfl, hg⟩
  obtain ⟨c0, c1, c2, c3, c4, c5⟩ := (Six.new _ _ _ _ _ _ _ _).grown hg
  go_wp2_with fail
  clear c1 c2 c3 c4 c5 hD0 v0 x0 hD1 v1 x1 hD2 v2 x2
  have hq : GT (W.alloc (.cells #[.int .i64 op, .int .i64 rd, .int .i64 rs1, .int .i64 rs2, .int .i64 imm, .int .i64 csr] 23)) w2.drew := ⟨hg.drew⟩
  go_region_held3 (fun w' => GT (W.alloc (.cells #[.int .i64 op, .int .i64 rd, .int .i64 rs1, .int .i64 rs2, .int .i64 imm, .int .i64 csr] 23)) w' ∧ w'.cell? ⟨W.heap.size, 0, none⟩ = some (.int .i64 op)) (exact ⟨hq, ((Six.new _ _ _ _ _ _ _ _).grown hq.g).c0⟩) (first | (go_at_call 31; refine (rtname_from (GT.g (by assumption)) _).mono ?_; rintro e w' ⟨rfl, hq⟩; replace hq : GT _ _ := ⟨hq⟩))
  go_wp2
  go_ret
  exact ⟨rfl, Grown.trans' ((Grown.refl _).alloc _ _) hq.g⟩
set_option maxRecDepth 100000 in
set_option maxHeartbeats 2000000 in
theorem text_4 (op rd rs1 rs2 imm csr : Int) (h : isB op rd rs1 rs2 imm csr = true) (p1 : hasRd op = false) (p4 : hasCsr op = false) (p2 : hasRs1 op = false) (p3 : hasRs2 op = false) (p5 : hasNum op = false) (W : World) :
    Calls Tryd.prog 13 #[.agg #[.int .i64 op, .int .i64 rd, .int .i64 rs1, .int .i64 rs2, .int .i64 imm, .int .i64 csr]] W fun e w' => e = .returned (.string (bs (txtL op rd rs1 rs2 imm csr))) ∧ Grown W w' := by
  obtain ⟨b1, b2, b3, b4, b5⟩ := text_bounds h
  have ht : tailL op rd rs1 rs2 imm csr = [] := by
    unfold tailL partR partN
    rw [p1, p2, p3, p4, p5]
    rfl
  have he : txtL op rd rs1 rs2 imm csr = nameL op := by unfold txtL; rw [if_pos ht]
  rw [he]
  clear he ht
  have hg := Grown.refl (W.alloc (.cells #[.int .i64 op, .int .i64 rd, .int .i64 rs1, .int .i64 rs2, .int .i64 imm, .int .i64 csr] 23))
  go_enter Tryd.func13, Tryd.ntmps13
  go_wp2_with (first | (go_at_call 21; refine (rtis_from hg _ _ _ _ _ _).mono ?_; rintro e w' ⟨rfl, hg⟩; obtain ⟨c0, c1, c2, c3, c4, c5⟩ := (Six.new _ _ _ _ _ _ _ _).grown hg) | (go_at_call 29; refine (rparts_any _ _).mono ?_; rintro e w' ⟨rfl, rfl⟩) | (go_at_call 31; refine (rtname_from hg _).mono ?_; rintro e w' ⟨rfl, hg⟩))
  go_ret
  exact ⟨rfl, Grown.trans' ((Grown.refl _).alloc _ _) hg⟩
set_option maxRecDepth 100000 in
set_option maxHeartbeats 2000000 in
theorem text_5 (op rd rs1 rs2 imm csr : Int) (h : isB op rd rs1 rs2 imm csr = true) (p1 : hasRd op = true) (p4 : hasCsr op = true) (p2 : hasRs1 op = true) (p3 : hasRs2 op = false) (p5 : hasNum op = false) (W : World) :
    Calls Tryd.prog 13 #[.agg #[.int .i64 op, .int .i64 rd, .int .i64 rs1, .int .i64 rs2, .int .i64 imm, .int .i64 csr]] W fun e w' => e = .returned (.string (bs (txtL op rd rs1 rs2 imm csr))) ∧ Grown W w' := by
  obtain ⟨b1, b2, b3, b4, b5⟩ := text_bounds h
  obtain ⟨D0, hD0⟩ : ∃ l : List UInt8, dgI rd = l := ⟨_, rfl⟩
  have lD0 : D0.length ≤ 21 := by rw [← hD0]; exact dgI_len _
  obtain ⟨D1, hD1⟩ : ∃ l : List UInt8, dgI csr = l := ⟨_, rfl⟩
  have lD1 : D1.length ≤ 21 := by rw [← hD1]; exact dgI_len _
  obtain ⟨D2, hD2⟩ : ∃ l : List UInt8, dgI rs1 = l := ⟨_, rfl⟩
  have lD2 : D2.length ≤ 21 := by rw [← hD2]; exact dgI_len _
  obtain ⟨M0, hM0⟩ : ∃ l : List UInt8, ([] : List UInt8) ++ [44, 120] = l := ⟨_, rfl⟩
  have lM0 : M0.length ≤ 2 := by rw [← hM0]; simp
  have v0 : ∀ w : World, (Op.stringOp .add (⟨#[]⟩ : ByteArray) ⟨#[44, 120]⟩).run Tryd.prog w = .ok (.string (bs M0)) w := by
    rw [← hM0]
    exact add_bs Tryd.prog ([] : List UInt8) [44, 120] (by simp)
  obtain ⟨S0, hS0⟩ : ∃ l : List UInt8, M0 ++ D0 = l := ⟨_, rfl⟩
  have lS0 : S0.length ≤ 23 := by rw [← hS0]; simp; omega
  have x0 : ∀ w : World, (Op.stringOp .add (bs M0) (bs D0)).run Tryd.prog w = .ok (.string (bs S0)) w := by
    rw [← hS0]
    exact add_bs Tryd.prog M0 D0 (by omega)
  obtain ⟨M1, hM1⟩ : ∃ l : List UInt8, S0 ++ [44] = l := ⟨_, rfl⟩
  have lM1 : M1.length ≤ 27 := by rw [← hM1]; simp; omega
  have v1 : ∀ w : World, (Op.stringOp .add (bs S0) ⟨#[44]⟩).run Tryd.prog w = .ok (.string (bs M1)) w := by
    rw [← hM1]
    exact add_bs Tryd.prog S0 [44] (by simp; omega)
  obtain ⟨S1, hS1⟩ : ∃ l : List UInt8, M1 ++ D1 = l := ⟨_, rfl⟩
  have lS1 : S1.length ≤ 48 := by rw [← hS1]; simp; omega
  have x1 : ∀ w : World, (Op.stringOp .add (bs M1) (bs D1)).run Tryd.prog w = .ok (.string (bs S1)) w := by
    rw [← hS1]
    exact add_bs Tryd.prog M1 D1 (by omega)
  obtain ⟨M2, hM2⟩ : ∃ l : List UInt8, S1 ++ [44, 120] = l := ⟨_, rfl⟩
  have lM2 : M2.length ≤ 52 := by rw [← hM2]; simp; omega
  have v2 : ∀ w : World, (Op.stringOp .add (bs S1) ⟨#[44, 120]⟩).run Tryd.prog w = .ok (.string (bs M2)) w := by
    rw [← hM2]
    exact add_bs Tryd.prog S1 [44, 120] (by simp; omega)
  obtain ⟨S2, hS2⟩ : ∃ l : List UInt8, M2 ++ D2 = l := ⟨_, rfl⟩
  have lS2 : S2.length ≤ 73 := by rw [← hS2]; simp; omega
  have x2 : ∀ w : World, (Op.stringOp .add (bs M2) (bs D2)).run Tryd.prog w = .ok (.string (bs S2)) w := by
    rw [← hS2]
    exact add_bs Tryd.prog M2 D2 (by omega)
  have ht : tailL op rd rs1 rs2 imm csr = S2 := by
    unfold tailL partR partN
    rw [p1, p2, p3, p4, p5, hD0, hD1, hD2]
    simp [← hS2, ← hM2, ← hS1, ← hM1, ← hS0, ← hM0]
  have hne : S2 ≠ [] := by rw [← hS2, ← hM2]; simp
  have hnl := name_len op
  have he : txtL op rd rs1 rs2 imm csr = nameL op ++ 32 :: S2.tail := by
    unfold txtL
    rw [ht, if_neg hne]
  rw [he]
  have hE := eq_no hne
  have hL := fun w => slice1 w S2 hne
  have lt : S2.tail.length ≤ 75 := by rw [List.length_tail]; omega
  have y1 : ∀ w : World, (Op.stringOp .add (bs (nameL op)) ⟨#[32]⟩).run Tryd.prog w = .ok (.string (bs (nameL op ++ [32]))) w := add_bs Tryd.prog (nameL op) [32] (by simp; omega)
  have y2 : ∀ w : World, (Op.stringOp .add (bs (nameL op ++ [32])) (bs S2.tail)).run Tryd.prog w = .ok (.string (bs (nameL op ++ 32 :: S2.tail))) w := by
    rw [show nameL op ++ 32 :: S2.tail = nameL op ++ [32] ++ S2.tail by simp]
    exact add_bs Tryd.prog _ _ (by simp; omega)
  clear he ht hne lt hnl hM0 hS0 lM0 lS0 lD0 hM1 hS1 lM1 lS1 lD1 hM2 hS2 lM2 lS2 lD2
  have hg := Grown.refl (W.alloc (.cells #[.int .i64 op, .int .i64 rd, .int .i64 rs1, .int .i64 rs2, .int .i64 imm, .int .i64 csr] 23))
  go_enter Tryd.func13, Tryd.ntmps13
  go_wp2_with (first | (go_at_call 21; refine (rtis_from hg _ _ _ _ _ _).mono ?_; rintro e w' ⟨rfl, hg⟩; obtain ⟨c0, c1, c2, c3, c4, c5⟩ := (Six.new _ _ _ _ _ _ _ _).grown hg) | (go_at_call 29; refine (rparts_any _ _).mono ?_; rintro e w' ⟨rfl, rfl⟩))
  refine (digits_from hg rd D0 hD0 (by omega) (by omega)).mono ?_
  rintro e w0 ⟨rfl, hg⟩
  obtain ⟨c0, c1, c2, c3, c4, c5⟩ := (Six.new _ _ _ _ _ _ _ _).grown hg
  go_wp2_with fail
  refine (digits_from hg csr D1 hD1 (by omega) (by omega)).mono ?_
  rintro e w1 ⟨rfl, hg⟩
  obtain ⟨c0, c1, c2, c3, c4, c5⟩ := (Six.new _ _ _ _ _ _ _ _).grown hg
  go_wp2_with fail
  refine (digits_from hg rs1 D2 hD2 (by omega) (by omega)).mono ?_
  rintro e w2 ⟨rfl, hg⟩
  obtain ⟨c0, c1, c2, c3, c4, c5⟩ := (Six.new _ _ _ _ _ _ _ _).grown hg
  go_wp2_with fail
  clear c1 c2 c3 c4 c5 hD0 v0 x0 hD1 v1 x1 hD2 v2 x2
  have hq : GT (W.alloc (.cells #[.int .i64 op, .int .i64 rd, .int .i64 rs1, .int .i64 rs2, .int .i64 imm, .int .i64 csr] 23)) w2.drew := ⟨hg.drew⟩
  go_region_held3 (fun w' => GT (W.alloc (.cells #[.int .i64 op, .int .i64 rd, .int .i64 rs1, .int .i64 rs2, .int .i64 imm, .int .i64 csr] 23)) w' ∧ w'.cell? ⟨W.heap.size, 0, none⟩ = some (.int .i64 op)) (exact ⟨hq, ((Six.new _ _ _ _ _ _ _ _).grown hq.g).c0⟩) (first | (go_at_call 31; refine (rtname_from (GT.g (by assumption)) _).mono ?_; rintro e w' ⟨rfl, hq⟩; replace hq : GT _ _ := ⟨hq⟩))
  go_wp2
  go_ret
  exact ⟨rfl, Grown.trans' ((Grown.refl _).alloc _ _) hq.g⟩
set_option maxRecDepth 100000 in
set_option maxHeartbeats 2000000 in
theorem text_6 (op rd rs1 rs2 imm csr : Int) (h : isB op rd rs1 rs2 imm csr = true) (p1 : hasRd op = true) (p4 : hasCsr op = true) (p2 : hasRs1 op = false) (p3 : hasRs2 op = false) (p5 : hasNum op = true) (W : World) :
    Calls Tryd.prog 13 #[.agg #[.int .i64 op, .int .i64 rd, .int .i64 rs1, .int .i64 rs2, .int .i64 imm, .int .i64 csr]] W fun e w' => e = .returned (.string (bs (txtL op rd rs1 rs2 imm csr))) ∧ Grown W w' := by
  obtain ⟨b1, b2, b3, b4, b5⟩ := text_bounds h
  obtain ⟨D0, hD0⟩ : ∃ l : List UInt8, dgI rd = l := ⟨_, rfl⟩
  have lD0 : D0.length ≤ 21 := by rw [← hD0]; exact dgI_len _
  obtain ⟨D1, hD1⟩ : ∃ l : List UInt8, dgI csr = l := ⟨_, rfl⟩
  have lD1 : D1.length ≤ 21 := by rw [← hD1]; exact dgI_len _
  obtain ⟨D2, hD2⟩ : ∃ l : List UInt8, dgI imm = l := ⟨_, rfl⟩
  have lD2 : D2.length ≤ 21 := by rw [← hD2]; exact dgI_len _
  obtain ⟨M0, hM0⟩ : ∃ l : List UInt8, ([] : List UInt8) ++ [44, 120] = l := ⟨_, rfl⟩
  have lM0 : M0.length ≤ 2 := by rw [← hM0]; simp
  have v0 : ∀ w : World, (Op.stringOp .add (⟨#[]⟩ : ByteArray) ⟨#[44, 120]⟩).run Tryd.prog w = .ok (.string (bs M0)) w := by
    rw [← hM0]
    exact add_bs Tryd.prog ([] : List UInt8) [44, 120] (by simp)
  obtain ⟨S0, hS0⟩ : ∃ l : List UInt8, M0 ++ D0 = l := ⟨_, rfl⟩
  have lS0 : S0.length ≤ 23 := by rw [← hS0]; simp; omega
  have x0 : ∀ w : World, (Op.stringOp .add (bs M0) (bs D0)).run Tryd.prog w = .ok (.string (bs S0)) w := by
    rw [← hS0]
    exact add_bs Tryd.prog M0 D0 (by omega)
  obtain ⟨M1, hM1⟩ : ∃ l : List UInt8, S0 ++ [44] = l := ⟨_, rfl⟩
  have lM1 : M1.length ≤ 27 := by rw [← hM1]; simp; omega
  have v1 : ∀ w : World, (Op.stringOp .add (bs S0) ⟨#[44]⟩).run Tryd.prog w = .ok (.string (bs M1)) w := by
    rw [← hM1]
    exact add_bs Tryd.prog S0 [44] (by simp; omega)
  obtain ⟨S1, hS1⟩ : ∃ l : List UInt8, M1 ++ D1 = l := ⟨_, rfl⟩
  have lS1 : S1.length ≤ 48 := by rw [← hS1]; simp; omega
  have x1 : ∀ w : World, (Op.stringOp .add (bs M1) (bs D1)).run Tryd.prog w = .ok (.string (bs S1)) w := by
    rw [← hS1]
    exact add_bs Tryd.prog M1 D1 (by omega)
  obtain ⟨M2, hM2⟩ : ∃ l : List UInt8, S1 ++ [44] = l := ⟨_, rfl⟩
  have lM2 : M2.length ≤ 52 := by rw [← hM2]; simp; omega
  have v2 : ∀ w : World, (Op.stringOp .add (bs S1) ⟨#[44]⟩).run Tryd.prog w = .ok (.string (bs M2)) w := by
    rw [← hM2]
    exact add_bs Tryd.prog S1 [44] (by simp; omega)
  obtain ⟨S2, hS2⟩ : ∃ l : List UInt8, M2 ++ D2 = l := ⟨_, rfl⟩
  have lS2 : S2.length ≤ 73 := by rw [← hS2]; simp; omega
  have x2 : ∀ w : World, (Op.stringOp .add (bs M2) (bs D2)).run Tryd.prog w = .ok (.string (bs S2)) w := by
    rw [← hS2]
    exact add_bs Tryd.prog M2 D2 (by omega)
  have ht : tailL op rd rs1 rs2 imm csr = S2 := by
    unfold tailL partR partN
    rw [p1, p2, p3, p4, p5, hD0, hD1, hD2]
    simp [← hS2, ← hM2, ← hS1, ← hM1, ← hS0, ← hM0]
  have hne : S2 ≠ [] := by rw [← hS2, ← hM2]; simp
  have hnl := name_len op
  have he : txtL op rd rs1 rs2 imm csr = nameL op ++ 32 :: S2.tail := by
    unfold txtL
    rw [ht, if_neg hne]
  rw [he]
  have hE := eq_no hne
  have hL := fun w => slice1 w S2 hne
  have lt : S2.tail.length ≤ 75 := by rw [List.length_tail]; omega
  have y1 : ∀ w : World, (Op.stringOp .add (bs (nameL op)) ⟨#[32]⟩).run Tryd.prog w = .ok (.string (bs (nameL op ++ [32]))) w := add_bs Tryd.prog (nameL op) [32] (by simp; omega)
  have y2 : ∀ w : World, (Op.stringOp .add (bs (nameL op ++ [32])) (bs S2.tail)).run Tryd.prog w = .ok (.string (bs (nameL op ++ 32 :: S2.tail))) w := by
    rw [show nameL op ++ 32 :: S2.tail = nameL op ++ [32] ++ S2.tail by simp]
    exact add_bs Tryd.prog _ _ (by simp; omega)
  clear he ht hne lt hnl hM0 hS0 lM0 lS0 lD0 hM1 hS1 lM1 lS1 lD1 hM2 hS2 lM2 lS2 lD2
  have hg := Grown.refl (W.alloc (.cells #[.int .i64 op, .int .i64 rd, .int .i64 rs1, .int .i64 rs2, .int .i64 imm, .int .i64 csr] 23))
  go_enter Tryd.func13, Tryd.ntmps13
  go_wp2_with (first | (go_at_call 21; refine (rtis_from hg _ _ _ _ _ _).mono ?_; rintro e w' ⟨rfl, hg⟩; obtain ⟨c0, c1, c2, c3, c4, c5⟩ := (Six.new _ _ _ _ _ _ _ _).grown hg) | (go_at_call 29; refine (rparts_any _ _).mono ?_; rintro e w' ⟨rfl, rfl⟩))
  refine (digits_from hg rd D0 hD0 (by omega) (by omega)).mono ?_
  rintro e w0 ⟨rfl, hg⟩
  obtain ⟨c0, c1, c2, c3, c4, c5⟩ := (Six.new _ _ _ _ _ _ _ _).grown hg
  go_wp2_with fail
  refine (digits_from hg csr D1 hD1 (by omega) (by omega)).mono ?_
  rintro e w1 ⟨rfl, hg⟩
  obtain ⟨c0, c1, c2, c3, c4, c5⟩ := (Six.new _ _ _ _ _ _ _ _).grown hg
  go_wp2_with fail
  refine (digits_from hg imm D2 hD2 (by omega) (by omega)).mono ?_
  rintro e w2 ⟨rfl, hg⟩
  obtain ⟨c0, c1, c2, c3, c4, c5⟩ := (Six.new _ _ _ _ _ _ _ _).grown hg
  go_wp2_with fail
  clear c1 c2 c3 c4 c5 hD0 v0 x0 hD1 v1 x1 hD2 v2 x2
  have hq : GT (W.alloc (.cells #[.int .i64 op, .int .i64 rd, .int .i64 rs1, .int .i64 rs2, .int .i64 imm, .int .i64 csr] 23)) w2.drew := ⟨hg.drew⟩
  go_region_held3 (fun w' => GT (W.alloc (.cells #[.int .i64 op, .int .i64 rd, .int .i64 rs1, .int .i64 rs2, .int .i64 imm, .int .i64 csr] 23)) w' ∧ w'.cell? ⟨W.heap.size, 0, none⟩ = some (.int .i64 op)) (exact ⟨hq, ((Six.new _ _ _ _ _ _ _ _).grown hq.g).c0⟩) (first | (go_at_call 31; refine (rtname_from (GT.g (by assumption)) _).mono ?_; rintro e w' ⟨rfl, hq⟩; replace hq : GT _ _ := ⟨hq⟩))
  go_wp2
  go_ret
  exact ⟨rfl, Grown.trans' ((Grown.refl _).alloc _ _) hq.g⟩
set_option maxRecDepth 100000 in
set_option maxHeartbeats 2000000 in
theorem text_7 (op rd rs1 rs2 imm csr : Int) (h : isB op rd rs1 rs2 imm csr = true) (p1 : hasRd op = false) (p4 : hasCsr op = false) (p2 : hasRs1 op = true) (p3 : hasRs2 op = true) (p5 : hasNum op = false) (W : World) :
    Calls Tryd.prog 13 #[.agg #[.int .i64 op, .int .i64 rd, .int .i64 rs1, .int .i64 rs2, .int .i64 imm, .int .i64 csr]] W fun e w' => e = .returned (.string (bs (txtL op rd rs1 rs2 imm csr))) ∧ Grown W w' := by
  obtain ⟨b1, b2, b3, b4, b5⟩ := text_bounds h
  obtain ⟨D0, hD0⟩ : ∃ l : List UInt8, dgI rs1 = l := ⟨_, rfl⟩
  have lD0 : D0.length ≤ 21 := by rw [← hD0]; exact dgI_len _
  obtain ⟨D1, hD1⟩ : ∃ l : List UInt8, dgI rs2 = l := ⟨_, rfl⟩
  have lD1 : D1.length ≤ 21 := by rw [← hD1]; exact dgI_len _
  obtain ⟨M0, hM0⟩ : ∃ l : List UInt8, ([] : List UInt8) ++ [44, 120] = l := ⟨_, rfl⟩
  have lM0 : M0.length ≤ 2 := by rw [← hM0]; simp
  have v0 : ∀ w : World, (Op.stringOp .add (⟨#[]⟩ : ByteArray) ⟨#[44, 120]⟩).run Tryd.prog w = .ok (.string (bs M0)) w := by
    rw [← hM0]
    exact add_bs Tryd.prog ([] : List UInt8) [44, 120] (by simp)
  obtain ⟨S0, hS0⟩ : ∃ l : List UInt8, M0 ++ D0 = l := ⟨_, rfl⟩
  have lS0 : S0.length ≤ 23 := by rw [← hS0]; simp; omega
  have x0 : ∀ w : World, (Op.stringOp .add (bs M0) (bs D0)).run Tryd.prog w = .ok (.string (bs S0)) w := by
    rw [← hS0]
    exact add_bs Tryd.prog M0 D0 (by omega)
  obtain ⟨M1, hM1⟩ : ∃ l : List UInt8, S0 ++ [44, 120] = l := ⟨_, rfl⟩
  have lM1 : M1.length ≤ 27 := by rw [← hM1]; simp; omega
  have v1 : ∀ w : World, (Op.stringOp .add (bs S0) ⟨#[44, 120]⟩).run Tryd.prog w = .ok (.string (bs M1)) w := by
    rw [← hM1]
    exact add_bs Tryd.prog S0 [44, 120] (by simp; omega)
  obtain ⟨S1, hS1⟩ : ∃ l : List UInt8, M1 ++ D1 = l := ⟨_, rfl⟩
  have lS1 : S1.length ≤ 48 := by rw [← hS1]; simp; omega
  have x1 : ∀ w : World, (Op.stringOp .add (bs M1) (bs D1)).run Tryd.prog w = .ok (.string (bs S1)) w := by
    rw [← hS1]
    exact add_bs Tryd.prog M1 D1 (by omega)
  have ht : tailL op rd rs1 rs2 imm csr = S1 := by
    unfold tailL partR partN
    rw [p1, p2, p3, p4, p5, hD0, hD1]
    simp [← hS1, ← hM1, ← hS0, ← hM0]
  have hne : S1 ≠ [] := by rw [← hS1, ← hM1]; simp
  have hnl := name_len op
  have he : txtL op rd rs1 rs2 imm csr = nameL op ++ 32 :: S1.tail := by
    unfold txtL
    rw [ht, if_neg hne]
  rw [he]
  have hE := eq_no hne
  have hL := fun w => slice1 w S1 hne
  have lt : S1.tail.length ≤ 50 := by rw [List.length_tail]; omega
  have y1 : ∀ w : World, (Op.stringOp .add (bs (nameL op)) ⟨#[32]⟩).run Tryd.prog w = .ok (.string (bs (nameL op ++ [32]))) w := add_bs Tryd.prog (nameL op) [32] (by simp; omega)
  have y2 : ∀ w : World, (Op.stringOp .add (bs (nameL op ++ [32])) (bs S1.tail)).run Tryd.prog w = .ok (.string (bs (nameL op ++ 32 :: S1.tail))) w := by
    rw [show nameL op ++ 32 :: S1.tail = nameL op ++ [32] ++ S1.tail by simp]
    exact add_bs Tryd.prog _ _ (by simp; omega)
  clear he ht hne lt hnl hM0 hS0 lM0 lS0 lD0 hM1 hS1 lM1 lS1 lD1
  have hg := Grown.refl (W.alloc (.cells #[.int .i64 op, .int .i64 rd, .int .i64 rs1, .int .i64 rs2, .int .i64 imm, .int .i64 csr] 23))
  go_enter Tryd.func13, Tryd.ntmps13
  go_wp2_with (first | (go_at_call 21; refine (rtis_from hg _ _ _ _ _ _).mono ?_; rintro e w' ⟨rfl, hg⟩; obtain ⟨c0, c1, c2, c3, c4, c5⟩ := (Six.new _ _ _ _ _ _ _ _).grown hg) | (go_at_call 29; refine (rparts_any _ _).mono ?_; rintro e w' ⟨rfl, rfl⟩))
  refine (digits_from hg rs1 D0 hD0 (by omega) (by omega)).mono ?_
  rintro e w0 ⟨rfl, hg⟩
  obtain ⟨c0, c1, c2, c3, c4, c5⟩ := (Six.new _ _ _ _ _ _ _ _).grown hg
  go_wp2_with fail
  refine (digits_from hg rs2 D1 hD1 (by omega) (by omega)).mono ?_
  rintro e w1 ⟨rfl, hg⟩
  obtain ⟨c0, c1, c2, c3, c4, c5⟩ := (Six.new _ _ _ _ _ _ _ _).grown hg
  go_wp2_with fail
  clear c1 c2 c3 c4 c5 hD0 v0 x0 hD1 v1 x1
  have hq : GT (W.alloc (.cells #[.int .i64 op, .int .i64 rd, .int .i64 rs1, .int .i64 rs2, .int .i64 imm, .int .i64 csr] 23)) w1.drew := ⟨hg.drew⟩
  go_region_held3 (fun w' => GT (W.alloc (.cells #[.int .i64 op, .int .i64 rd, .int .i64 rs1, .int .i64 rs2, .int .i64 imm, .int .i64 csr] 23)) w' ∧ w'.cell? ⟨W.heap.size, 0, none⟩ = some (.int .i64 op)) (exact ⟨hq, ((Six.new _ _ _ _ _ _ _ _).grown hq.g).c0⟩) (first | (go_at_call 31; refine (rtname_from (GT.g (by assumption)) _).mono ?_; rintro e w' ⟨rfl, hq⟩; replace hq : GT _ _ := ⟨hq⟩))
  go_wp2
  go_ret
  exact ⟨rfl, Grown.trans' ((Grown.refl _).alloc _ _) hq.g⟩
set_option maxRecDepth 100000 in
set_option maxHeartbeats 2000000 in
theorem text_8 (op rd rs1 rs2 imm csr : Int) (h : isB op rd rs1 rs2 imm csr = true) (p1 : hasRd op = true) (p4 : hasCsr op = false) (p2 : hasRs1 op = true) (p3 : hasRs2 op = false) (p5 : hasNum op = false) (W : World) :
    Calls Tryd.prog 13 #[.agg #[.int .i64 op, .int .i64 rd, .int .i64 rs1, .int .i64 rs2, .int .i64 imm, .int .i64 csr]] W fun e w' => e = .returned (.string (bs (txtL op rd rs1 rs2 imm csr))) ∧ Grown W w' := by
  obtain ⟨b1, b2, b3, b4, b5⟩ := text_bounds h
  obtain ⟨D0, hD0⟩ : ∃ l : List UInt8, dgI rd = l := ⟨_, rfl⟩
  have lD0 : D0.length ≤ 21 := by rw [← hD0]; exact dgI_len _
  obtain ⟨D1, hD1⟩ : ∃ l : List UInt8, dgI rs1 = l := ⟨_, rfl⟩
  have lD1 : D1.length ≤ 21 := by rw [← hD1]; exact dgI_len _
  obtain ⟨M0, hM0⟩ : ∃ l : List UInt8, ([] : List UInt8) ++ [44, 120] = l := ⟨_, rfl⟩
  have lM0 : M0.length ≤ 2 := by rw [← hM0]; simp
  have v0 : ∀ w : World, (Op.stringOp .add (⟨#[]⟩ : ByteArray) ⟨#[44, 120]⟩).run Tryd.prog w = .ok (.string (bs M0)) w := by
    rw [← hM0]
    exact add_bs Tryd.prog ([] : List UInt8) [44, 120] (by simp)
  obtain ⟨S0, hS0⟩ : ∃ l : List UInt8, M0 ++ D0 = l := ⟨_, rfl⟩
  have lS0 : S0.length ≤ 23 := by rw [← hS0]; simp; omega
  have x0 : ∀ w : World, (Op.stringOp .add (bs M0) (bs D0)).run Tryd.prog w = .ok (.string (bs S0)) w := by
    rw [← hS0]
    exact add_bs Tryd.prog M0 D0 (by omega)
  obtain ⟨M1, hM1⟩ : ∃ l : List UInt8, S0 ++ [44, 120] = l := ⟨_, rfl⟩
  have lM1 : M1.length ≤ 27 := by rw [← hM1]; simp; omega
  have v1 : ∀ w : World, (Op.stringOp .add (bs S0) ⟨#[44, 120]⟩).run Tryd.prog w = .ok (.string (bs M1)) w := by
    rw [← hM1]
    exact add_bs Tryd.prog S0 [44, 120] (by simp; omega)
  obtain ⟨S1, hS1⟩ : ∃ l : List UInt8, M1 ++ D1 = l := ⟨_, rfl⟩
  have lS1 : S1.length ≤ 48 := by rw [← hS1]; simp; omega
  have x1 : ∀ w : World, (Op.stringOp .add (bs M1) (bs D1)).run Tryd.prog w = .ok (.string (bs S1)) w := by
    rw [← hS1]
    exact add_bs Tryd.prog M1 D1 (by omega)
  have ht : tailL op rd rs1 rs2 imm csr = S1 := by
    unfold tailL partR partN
    rw [p1, p2, p3, p4, p5, hD0, hD1]
    simp [← hS1, ← hM1, ← hS0, ← hM0]
  have hne : S1 ≠ [] := by rw [← hS1, ← hM1]; simp
  have hnl := name_len op
  have he : txtL op rd rs1 rs2 imm csr = nameL op ++ 32 :: S1.tail := by
    unfold txtL
    rw [ht, if_neg hne]
  rw [he]
  have hE := eq_no hne
  have hL := fun w => slice1 w S1 hne
  have lt : S1.tail.length ≤ 50 := by rw [List.length_tail]; omega
  have y1 : ∀ w : World, (Op.stringOp .add (bs (nameL op)) ⟨#[32]⟩).run Tryd.prog w = .ok (.string (bs (nameL op ++ [32]))) w := add_bs Tryd.prog (nameL op) [32] (by simp; omega)
  have y2 : ∀ w : World, (Op.stringOp .add (bs (nameL op ++ [32])) (bs S1.tail)).run Tryd.prog w = .ok (.string (bs (nameL op ++ 32 :: S1.tail))) w := by
    rw [show nameL op ++ 32 :: S1.tail = nameL op ++ [32] ++ S1.tail by simp]
    exact add_bs Tryd.prog _ _ (by simp; omega)
  clear he ht hne lt hnl hM0 hS0 lM0 lS0 lD0 hM1 hS1 lM1 lS1 lD1
  have hg := Grown.refl (W.alloc (.cells #[.int .i64 op, .int .i64 rd, .int .i64 rs1, .int .i64 rs2, .int .i64 imm, .int .i64 csr] 23))
  go_enter Tryd.func13, Tryd.ntmps13
  go_wp2_with (first | (go_at_call 21; refine (rtis_from hg _ _ _ _ _ _).mono ?_; rintro e w' ⟨rfl, hg⟩; obtain ⟨c0, c1, c2, c3, c4, c5⟩ := (Six.new _ _ _ _ _ _ _ _).grown hg) | (go_at_call 29; refine (rparts_any _ _).mono ?_; rintro e w' ⟨rfl, rfl⟩))
  refine (digits_from hg rd D0 hD0 (by omega) (by omega)).mono ?_
  rintro e w0 ⟨rfl, hg⟩
  obtain ⟨c0, c1, c2, c3, c4, c5⟩ := (Six.new _ _ _ _ _ _ _ _).grown hg
  go_wp2_with fail
  refine (digits_from hg rs1 D1 hD1 (by omega) (by omega)).mono ?_
  rintro e w1 ⟨rfl, hg⟩
  obtain ⟨c0, c1, c2, c3, c4, c5⟩ := (Six.new _ _ _ _ _ _ _ _).grown hg
  go_wp2_with fail
  clear c1 c2 c3 c4 c5 hD0 v0 x0 hD1 v1 x1
  have hq : GT (W.alloc (.cells #[.int .i64 op, .int .i64 rd, .int .i64 rs1, .int .i64 rs2, .int .i64 imm, .int .i64 csr] 23)) w1.drew := ⟨hg.drew⟩
  go_region_held3 (fun w' => GT (W.alloc (.cells #[.int .i64 op, .int .i64 rd, .int .i64 rs1, .int .i64 rs2, .int .i64 imm, .int .i64 csr] 23)) w' ∧ w'.cell? ⟨W.heap.size, 0, none⟩ = some (.int .i64 op)) (exact ⟨hq, ((Six.new _ _ _ _ _ _ _ _).grown hq.g).c0⟩) (first | (go_at_call 31; refine (rtname_from (GT.g (by assumption)) _).mono ?_; rintro e w' ⟨rfl, hq⟩; replace hq : GT _ _ := ⟨hq⟩))
  go_wp2
  go_ret
  exact ⟨rfl, Grown.trans' ((Grown.refl _).alloc _ _) hq.g⟩
theorem text_any (op rd rs1 rs2 imm csr : Int) (h : isB op rd rs1 rs2 imm csr = true) (W : World) :
    Calls Tryd.prog 13 #[.agg #[.int .i64 op, .int .i64 rd, .int .i64 rs1, .int .i64 rs2, .int .i64 imm, .int .i64 csr]] W fun e w' => e = .returned (.string (bs (txtL op rd rs1 rs2 imm csr))) ∧ Grown W w' := by
  rcases has_ways op with ⟨p1, p4, p2, p3, p5⟩ | ⟨p1, p4, p2, p3, p5⟩ | ⟨p1, p4, p2, p3, p5⟩ | ⟨p1, p4, p2, p3, p5⟩ | ⟨p1, p4, p2, p3, p5⟩ | ⟨p1, p4, p2, p3, p5⟩ | ⟨p1, p4, p2, p3, p5⟩ | ⟨p1, p4, p2, p3, p5⟩ | ⟨p1, p4, p2, p3, p5⟩
  · exact text_0 op rd rs1 rs2 imm csr h p1 p4 p2 p3 p5 W
  · exact text_1 op rd rs1 rs2 imm csr h p1 p4 p2 p3 p5 W
  · exact text_2 op rd rs1 rs2 imm csr h p1 p4 p2 p3 p5 W
  · exact text_3 op rd rs1 rs2 imm csr h p1 p4 p2 p3 p5 W
  · exact text_4 op rd rs1 rs2 imm csr h p1 p4 p2 p3 p5 W
  · exact text_5 op rd rs1 rs2 imm csr h p1 p4 p2 p3 p5 W
  · exact text_6 op rd rs1 rs2 imm csr h p1 p4 p2 p3 p5 W
  · exact text_7 op rd rs1 rs2 imm csr h p1 p4 p2 p3 p5 W
  · exact text_8 op rd rs1 rs2 imm csr h p1 p4 p2 p3 p5 W
end Go.Proofs.YtdogjmimjjmmaaaDoor
