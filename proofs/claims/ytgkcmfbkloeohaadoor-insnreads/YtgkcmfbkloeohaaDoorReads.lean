/-
  sallyportlaw2.InsnReads, walked whole: true for every instruction.
-/
import Derived.Test.YtgkcmfbkloeohaaDoorClasses
namespace Go.Proofs.YtgkcmfbkloeohaaDoor
open Go.RowKit
theorem has_of_cls (op : Int) : (clsI op = 1 ∧ hasCsr op = false) ∨ (clsI op = 2 ∧ hasRd op = false ∧ hasCsr op = false) ∨ (clsI op = 3 ∧ hasCsr op = false) ∨ (clsI op = 4 ∧ hasRd op = false ∧ hasCsr op = false) ∨ (clsI op = 5 ∧ hasCsr op = false)
    ∨ (clsI op = 6 ∧ hasNum op = false ∧ hasCsr op = false) ∨ ((clsI op = 7 ∨ clsI op = 8 ∨ clsI op = 10) ∧ hasRd op = false ∧ hasRs1 op = false ∧ hasRs2 op = false ∧ hasCsr op = false) ∨ clsI op = 9 ∨ (clsI op = 11 ∧ hasRd op = false ∧ hasCsr op = false) ∨ (clsI op = 12 ∧ hasCsr op = false) ∨ clsI op = 0 :=
  op_cases (p := fun op => (clsI op = 1 ∧ hasCsr op = false) ∨ (clsI op = 2 ∧ hasRd op = false ∧ hasCsr op = false) ∨ (clsI op = 3 ∧ hasCsr op = false) ∨ (clsI op = 4 ∧ hasRd op = false ∧ hasCsr op = false) ∨ (clsI op = 5 ∧ hasCsr op = false)
    ∨ (clsI op = 6 ∧ hasNum op = false ∧ hasCsr op = false) ∨ ((clsI op = 7 ∨ clsI op = 8 ∨ clsI op = 10) ∧ hasRd op = false ∧ hasRs1 op = false ∧ hasRs2 op = false ∧ hasCsr op = false) ∨ clsI op = 9 ∨ (clsI op = 11 ∧ hasRd op = false ∧ hasCsr op = false) ∨ (clsI op = 12 ∧ hasCsr op = false) ∨ clsI op = 0)
    (by decide +kernel) (fun op h => by rw [cls_out h]; simp) op
theorem reg_none {r : Int} (h : regB r false = true) : r = 0 := by simpa [regB] using h
theorem csr_none {r : Int} (h : csrB r false = true) : r = 0 := by simpa [csrB] using h
theorem reads_facts {op rd rs1 rs2 imm csr : Int} (h : isB op rd rs1 rs2 imm csr = true) :
    (clsI op = 1 ∧ csr = 0) ∨ (clsI op = 2 ∧ rd = 0 ∧ csr = 0) ∨ (clsI op = 3 ∧ csr = 0) ∨ (clsI op = 4 ∧ rd = 0 ∧ csr = 0) ∨ (clsI op = 5 ∧ csr = 0) ∨ (clsI op = 6 ∧ imm = 0 ∧ csr = 0)
    ∨ ((clsI op = 7 ∨ clsI op = 8 ∨ clsI op = 10) ∧ rd = 0 ∧ rs1 = 0 ∧ rs2 = 0 ∧ csr = 0) ∨ clsI op = 9 ∨ (clsI op = 11 ∧ rd = 0 ∧ csr = 0) ∨ (clsI op = 12 ∧ csr = 0) := by
  simp only [isB, Bool.and_eq_true, bne_iff_ne, ne_eq] at h
  obtain ⟨g0, g1, g2, g3, g4, g5⟩ := h
  unfold immB at g5
  rcases has_of_cls op with ⟨e, a⟩ | ⟨e, a, b⟩ | ⟨e, a⟩ | ⟨e, a, b⟩ | ⟨e, a⟩ | ⟨e, a, b⟩ | ⟨e, a, b, c, d⟩ | e | ⟨e, a, b⟩ | ⟨e, a⟩ | e
  · rw [a] at g4; exact .inl ⟨e, csr_none g4⟩
  · rw [a] at g1; rw [b] at g4; exact .inr (.inl ⟨e, reg_none g1, csr_none g4⟩)
  · rw [a] at g4; exact .inr (.inr (.inl ⟨e, csr_none g4⟩))
  · rw [a] at g1; rw [b] at g4; exact .inr (.inr (.inr (.inl ⟨e, reg_none g1, csr_none g4⟩)))
  · rw [a] at g4; exact .inr (.inr (.inr (.inr (.inl ⟨e, csr_none g4⟩))))
  · rw [a] at g5; rw [b] at g4; exact .inr (.inr (.inr (.inr (.inr (.inl ⟨e, by simpa using g5, csr_none g4⟩)))))
  · rw [a] at g1; rw [b] at g2; rw [c] at g3; rw [d] at g4; exact .inr (.inr (.inr (.inr (.inr (.inr (.inl ⟨e, reg_none g1, reg_none g2, reg_none g3, csr_none g4⟩))))))
  · exact .inr (.inr (.inr (.inr (.inr (.inr (.inr (.inl e)))))))
  · rw [a] at g1; rw [b] at g4; exact .inr (.inr (.inr (.inr (.inr (.inr (.inr (.inr (.inl ⟨e, reg_none g1, csr_none g4⟩))))))))
  · rw [a] at g4; exact .inr (.inr (.inr (.inr (.inr (.inr (.inr (.inr (.inr ⟨e, csr_none g4⟩))))))))
  · exact absurd e g0
set_option maxHeartbeats 4000000 in
theorem reads_law (op rd rs1 rs2 imm csr : Int) (W : World) (hT : Tab W) :
    Calls Tryd.prog 6 #[.agg #[.int .i64 op, .int .i64 rd, .int .i64 rs1, .int .i64 rs2, .int .i64 imm, .int .i64 csr]] W fun e w' => e = .returned (.bool true) ∧ Grown W w' := by
  have hT1 := hT.grown ((Grown.refl W).alloc #[.int .i64 op, .int .i64 rd, .int .i64 rs1, .int .i64 rs2, .int .i64 imm, .int .i64 csr] 23)
  have hg := Grown.refl (W.alloc (.cells #[.int .i64 op, .int .i64 rd, .int .i64 rs1, .int .i64 rs2, .int .i64 imm, .int .i64 csr] 23))
  have ht : ∀ n, orZ true n = n := fun _ => rfl
  have hf : ∀ n, orZ false n = 0 := fun _ => rfl
  cases h : isB op rd rs1 rs2 imm csr
  · go_enter Tryd.func6, Tryd.ntmps6
    go_wp2_with (first | (go_at_call 8; refine (known_from hT1 hg).mono ?_; rintro e w' ⟨rfl, hg⟩; obtain ⟨c0, c1, c2, c3, c4, c5⟩ := (Six.new _ _ _ _ _ _ _ _).grown hg) | (go_at_call 11; refine (is_from hT1 hg _ _ _ _ _ _).mono ?_; rintro e w' ⟨rfl, hg⟩; obtain ⟨c0, c1, c2, c3, c4, c5⟩ := (Six.new _ _ _ _ _ _ _ _).grown hg) | (go_at_call 18; refine (class_from hT1 hg _).mono ?_; rintro e w' ⟨rfl, hg⟩; obtain ⟨c0, c1, c2, c3, c4, c5⟩ := (Six.new _ _ _ _ _ _ _ _).grown hg) | (go_at_call 9; refine (reads_from hT1 hg _ _ _ _ _ _).mono ?_; rintro e w' ⟨rfl, hg⟩; obtain ⟨c0, c1, c2, c3, c4, c5⟩ := (Six.new _ _ _ _ _ _ _ _).grown hg) | (go_at_call 14; refine (writes_from hT1 hg _ _ _ _ _ _).mono ?_; rintro e w' ⟨rfl, hg⟩; obtain ⟨c0, c1, c2, c3, c4, c5⟩ := (Six.new _ _ _ _ _ _ _ _).grown hg))
    go_ret
    exact ⟨rfl, Grown.trans' ((Grown.refl _).alloc _ _) hg⟩
  · rcases reads_facts h with ⟨hc, rfl⟩ | ⟨hc, rfl, rfl⟩ | ⟨hc, rfl⟩ | ⟨hc, rfl, rfl⟩ | ⟨hc, rfl⟩ | ⟨hc, rfl, rfl⟩ | ⟨hc | hc | hc, rfl, rfl, rfl, rfl⟩ | hc | ⟨hc, rfl, rfl⟩ | ⟨hc, rfl⟩
    all_goals
      go_enter Tryd.func6, Tryd.ntmps6
      go_wp2_with (first | (go_at_call 8; refine (known_from hT1 hg).mono ?_; rintro e w' ⟨rfl, hg⟩; obtain ⟨c0, c1, c2, c3, c4, c5⟩ := (Six.new _ _ _ _ _ _ _ _).grown hg) | (go_at_call 11; refine (is_from hT1 hg _ _ _ _ _ _).mono ?_; rintro e w' ⟨rfl, hg⟩; obtain ⟨c0, c1, c2, c3, c4, c5⟩ := (Six.new _ _ _ _ _ _ _ _).grown hg) | (go_at_call 18; refine (class_from hT1 hg _).mono ?_; rintro e w' ⟨rfl, hg⟩; obtain ⟨c0, c1, c2, c3, c4, c5⟩ := (Six.new _ _ _ _ _ _ _ _).grown hg) | (go_at_call 9; refine (reads_from hT1 hg _ _ _ _ _ _).mono ?_; rintro e w' ⟨rfl, hg⟩; obtain ⟨c0, c1, c2, c3, c4, c5⟩ := (Six.new _ _ _ _ _ _ _ _).grown hg) | (go_at_call 14; refine (writes_from hT1 hg _ _ _ _ _ _).mono ?_; rintro e w' ⟨rfl, hg⟩; obtain ⟨c0, c1, c2, c3, c4, c5⟩ := (Six.new _ _ _ _ _ _ _ _).grown hg))
      go_ret
      exact ⟨rfl, Grown.trans' ((Grown.refl _).alloc _ _) hg⟩
end Go.Proofs.YtgkcmfbkloeohaaDoor
