/-
  sallyportlaw2.InsnFields, walked whole: true for every instruction.
-/
import Derived.Test.YtgkcmfbkloeohaaDoorKnown
namespace Go.Proofs.YtgkcmfbkloeohaaDoor
open Go.RowKit
theorem bad_rd (op rs1 rs2 imm csr : Int) : isB op 32 rs1 rs2 imm csr = false := by simp [isB, regB]
theorem bad_rs1 (op rd rs2 imm csr : Int) : isB op rd (-1) rs2 imm csr = false := by simp [isB, regB]
theorem bad_rs2 (op rd rs1 imm csr : Int) : isB op rd rs1 32 imm csr = false := by simp [isB, regB]
theorem bad_csr (op rd rs1 rs2 imm : Int) : isB op rd rs1 rs2 imm 4096 = false := by simp [isB, csrB]
theorem bad_op (rd rs1 rs2 imm csr : Int) : isB 70 rd rs1 rs2 imm csr = false := by
  have : clsI 70 = 0 := by decide +kernel
  simp [isB, this]
theorem bad_imm (op rd rs1 rs2 csr : Int) : isB op rd rs1 rs2 2147483648 csr = false := by
  have h : immB op 2147483648 = false := by
    unfold immB
    split
    · unfold numB
      repeat' split
      all_goals decide +kernel
    · decide +kernel
  simp [isB, h]
theorem same_is {op rd rs1 rs2 imm csr op' rd' rs1' rs2' imm' csr' : Int} (h : isB op rd rs1 rs2 imm csr = true) (h' : isB op' rd' rs1' rs2' imm' csr' = false) :
    sameB op rd rs1 rs2 imm csr op' rd' rs1' rs2' imm' csr' = false := by
  cases e : sameB op rd rs1 rs2 imm csr op' rd' rs1' rs2' imm' csr'
  · rfl
  · simp [sameB] at e
    obtain ⟨rfl, rfl, rfl, rfl, rfl, rfl⟩ := e
    rw [h] at h'
    cases h'
set_option maxHeartbeats 4000000 in
theorem fields_law (op rd rs1 rs2 imm csr which : Int) (b0 : 0 ≤ which) (b1 : which < 256) (W : World) (hT : Tab W) :
    Calls Tryd.prog 5 #[.agg #[.int .i64 op, .int .i64 rd, .int .i64 rs1, .int .i64 rs2, .int .i64 imm, .int .i64 csr], .int .u8 which] W fun e w' => e = .returned (.bool true) ∧ Grown W w' := by
  have hT1 := hT.grown ((Grown.refl W).alloc #[.int .i64 op, .int .i64 rd, .int .i64 rs1, .int .i64 rs2, .int .i64 imm, .int .i64 csr] 23)
  have hg := Grown.refl (W.alloc (.cells #[.int .i64 op, .int .i64 rd, .int .i64 rs1, .int .i64 rs2, .int .i64 imm, .int .i64 csr] 23))
  have ht : ∀ n, orZ true n = n := fun _ => rfl
  have hf : ∀ n, orZ false n = 0 := fun _ => rfl
  cases h : isB op rd rs1 rs2 imm csr
  · go_enter Tryd.func5, Tryd.ntmps5
    go_wp2_with (first | (go_at_call 8; refine (known_from hT1 hg).mono ?_; rintro e w' ⟨rfl, hg⟩; obtain ⟨c0, c1, c2, c3, c4, c5⟩ := (Six.new _ _ _ _ _ _ _ _).grown hg) | (go_at_call 11; refine (is_from hT1 hg _ _ _ _ _ _).mono ?_; rintro e w' ⟨rfl, hg⟩; obtain ⟨c0, c1, c2, c3, c4, c5⟩ := (Six.new _ _ _ _ _ _ _ _).grown hg) | (go_at_call 14; refine (writes_from hT1 hg _ _ _ _ _ _).mono ?_; rintro e w' ⟨rfl, hg⟩; obtain ⟨c0, c1, c2, c3, c4, c5⟩ := (Six.new _ _ _ _ _ _ _ _).grown hg))
    go_ret
    exact ⟨rfl, Grown.trans' ((Grown.refl _).alloc _ _) hg⟩
  · rcases (show which % 6 = 0 ∨ which % 6 = 1 ∨ which % 6 = 2 ∨ which % 6 = 3 ∨ which % 6 = 4 ∨ which % 6 = 5 by omega) with hr | hr | hr | hr | hr | hr
    · have hb := bad_rd op rs1 rs2 imm csr
      have hs := same_is h hb
      go_enter Tryd.func5, Tryd.ntmps5
      go_wp2_with (first | (go_at_call 8; refine (known_from hT1 hg).mono ?_; rintro e w' ⟨rfl, hg⟩; obtain ⟨c0, c1, c2, c3, c4, c5⟩ := (Six.new _ _ _ _ _ _ _ _).grown hg) | (go_at_call 11; refine (is_from hT1 hg _ _ _ _ _ _).mono ?_; rintro e w' ⟨rfl, hg⟩; obtain ⟨c0, c1, c2, c3, c4, c5⟩ := (Six.new _ _ _ _ _ _ _ _).grown hg) | (go_at_call 14; refine (writes_from hT1 hg _ _ _ _ _ _).mono ?_; rintro e w' ⟨rfl, hg⟩; obtain ⟨c0, c1, c2, c3, c4, c5⟩ := (Six.new _ _ _ _ _ _ _ _).grown hg))
      refine (is_from (hT1.grown (hg.alloc _ _)) (Grown.refl _) _ _ _ _ _ _).mono ?_
      rintro e w2 ⟨rfl, hq⟩
      obtain ⟨d0, d1, d2, d3, d4, d5⟩ := (Six.new _ _ _ _ _ _ _ _).grown hq; obtain ⟨c0, c1, c2, c3, c4, c5⟩ := (Six.new _ _ _ _ _ _ _ _).grown (Grown.trans' (hg.alloc _ _) hq)
      go_wp2_with (first | (go_at_call 14; refine (writes_from (hT1.grown (hg.alloc _ _)) hq _ _ _ _ _ _).mono ?_; rintro e w2 ⟨rfl, hq⟩; obtain ⟨d0, d1, d2, d3, d4, d5⟩ := (Six.new _ _ _ _ _ _ _ _).grown hq; obtain ⟨c0, c1, c2, c3, c4, c5⟩ := (Six.new _ _ _ _ _ _ _ _).grown (Grown.trans' (hg.alloc _ _) hq)) | (go_at_call 13; refine (same_from hq _ _ _ _ _ _ _ _ _ _ _ _).mono ?_; rintro e w2 ⟨rfl, hq⟩; obtain ⟨d0, d1, d2, d3, d4, d5⟩ := (Six.new _ _ _ _ _ _ _ _).grown hq; obtain ⟨c0, c1, c2, c3, c4, c5⟩ := (Six.new _ _ _ _ _ _ _ _).grown (Grown.trans' (hg.alloc _ _) hq)))
      go_ret
      exact ⟨rfl, Grown.trans' (Grown.trans' ((Grown.refl _).alloc _ _) (hg.alloc _ _)) hq⟩
    · have hb := bad_rs1 op rd rs2 imm csr
      have hs := same_is h hb
      go_enter Tryd.func5, Tryd.ntmps5
      go_wp2_with (first | (go_at_call 8; refine (known_from hT1 hg).mono ?_; rintro e w' ⟨rfl, hg⟩; obtain ⟨c0, c1, c2, c3, c4, c5⟩ := (Six.new _ _ _ _ _ _ _ _).grown hg) | (go_at_call 11; refine (is_from hT1 hg _ _ _ _ _ _).mono ?_; rintro e w' ⟨rfl, hg⟩; obtain ⟨c0, c1, c2, c3, c4, c5⟩ := (Six.new _ _ _ _ _ _ _ _).grown hg) | (go_at_call 14; refine (writes_from hT1 hg _ _ _ _ _ _).mono ?_; rintro e w' ⟨rfl, hg⟩; obtain ⟨c0, c1, c2, c3, c4, c5⟩ := (Six.new _ _ _ _ _ _ _ _).grown hg))
      refine (is_from (hT1.grown (hg.alloc _ _)) (Grown.refl _) _ _ _ _ _ _).mono ?_
      rintro e w2 ⟨rfl, hq⟩
      obtain ⟨d0, d1, d2, d3, d4, d5⟩ := (Six.new _ _ _ _ _ _ _ _).grown hq; obtain ⟨c0, c1, c2, c3, c4, c5⟩ := (Six.new _ _ _ _ _ _ _ _).grown (Grown.trans' (hg.alloc _ _) hq)
      go_wp2_with (first | (go_at_call 14; refine (writes_from (hT1.grown (hg.alloc _ _)) hq _ _ _ _ _ _).mono ?_; rintro e w2 ⟨rfl, hq⟩; obtain ⟨d0, d1, d2, d3, d4, d5⟩ := (Six.new _ _ _ _ _ _ _ _).grown hq; obtain ⟨c0, c1, c2, c3, c4, c5⟩ := (Six.new _ _ _ _ _ _ _ _).grown (Grown.trans' (hg.alloc _ _) hq)) | (go_at_call 13; refine (same_from hq _ _ _ _ _ _ _ _ _ _ _ _).mono ?_; rintro e w2 ⟨rfl, hq⟩; obtain ⟨d0, d1, d2, d3, d4, d5⟩ := (Six.new _ _ _ _ _ _ _ _).grown hq; obtain ⟨c0, c1, c2, c3, c4, c5⟩ := (Six.new _ _ _ _ _ _ _ _).grown (Grown.trans' (hg.alloc _ _) hq)))
      go_ret
      exact ⟨rfl, Grown.trans' (Grown.trans' ((Grown.refl _).alloc _ _) (hg.alloc _ _)) hq⟩
    · have hb := bad_rs2 op rd rs1 imm csr
      have hs := same_is h hb
      go_enter Tryd.func5, Tryd.ntmps5
      go_wp2_with (first | (go_at_call 8; refine (known_from hT1 hg).mono ?_; rintro e w' ⟨rfl, hg⟩; obtain ⟨c0, c1, c2, c3, c4, c5⟩ := (Six.new _ _ _ _ _ _ _ _).grown hg) | (go_at_call 11; refine (is_from hT1 hg _ _ _ _ _ _).mono ?_; rintro e w' ⟨rfl, hg⟩; obtain ⟨c0, c1, c2, c3, c4, c5⟩ := (Six.new _ _ _ _ _ _ _ _).grown hg) | (go_at_call 14; refine (writes_from hT1 hg _ _ _ _ _ _).mono ?_; rintro e w' ⟨rfl, hg⟩; obtain ⟨c0, c1, c2, c3, c4, c5⟩ := (Six.new _ _ _ _ _ _ _ _).grown hg))
      refine (is_from (hT1.grown (hg.alloc _ _)) (Grown.refl _) _ _ _ _ _ _).mono ?_
      rintro e w2 ⟨rfl, hq⟩
      obtain ⟨d0, d1, d2, d3, d4, d5⟩ := (Six.new _ _ _ _ _ _ _ _).grown hq; obtain ⟨c0, c1, c2, c3, c4, c5⟩ := (Six.new _ _ _ _ _ _ _ _).grown (Grown.trans' (hg.alloc _ _) hq)
      go_wp2_with (first | (go_at_call 14; refine (writes_from (hT1.grown (hg.alloc _ _)) hq _ _ _ _ _ _).mono ?_; rintro e w2 ⟨rfl, hq⟩; obtain ⟨d0, d1, d2, d3, d4, d5⟩ := (Six.new _ _ _ _ _ _ _ _).grown hq; obtain ⟨c0, c1, c2, c3, c4, c5⟩ := (Six.new _ _ _ _ _ _ _ _).grown (Grown.trans' (hg.alloc _ _) hq)) | (go_at_call 13; refine (same_from hq _ _ _ _ _ _ _ _ _ _ _ _).mono ?_; rintro e w2 ⟨rfl, hq⟩; obtain ⟨d0, d1, d2, d3, d4, d5⟩ := (Six.new _ _ _ _ _ _ _ _).grown hq; obtain ⟨c0, c1, c2, c3, c4, c5⟩ := (Six.new _ _ _ _ _ _ _ _).grown (Grown.trans' (hg.alloc _ _) hq)))
      go_ret
      exact ⟨rfl, Grown.trans' (Grown.trans' ((Grown.refl _).alloc _ _) (hg.alloc _ _)) hq⟩
    · have hb := bad_csr op rd rs1 rs2 imm
      have hs := same_is h hb
      go_enter Tryd.func5, Tryd.ntmps5
      go_wp2_with (first | (go_at_call 8; refine (known_from hT1 hg).mono ?_; rintro e w' ⟨rfl, hg⟩; obtain ⟨c0, c1, c2, c3, c4, c5⟩ := (Six.new _ _ _ _ _ _ _ _).grown hg) | (go_at_call 11; refine (is_from hT1 hg _ _ _ _ _ _).mono ?_; rintro e w' ⟨rfl, hg⟩; obtain ⟨c0, c1, c2, c3, c4, c5⟩ := (Six.new _ _ _ _ _ _ _ _).grown hg) | (go_at_call 14; refine (writes_from hT1 hg _ _ _ _ _ _).mono ?_; rintro e w' ⟨rfl, hg⟩; obtain ⟨c0, c1, c2, c3, c4, c5⟩ := (Six.new _ _ _ _ _ _ _ _).grown hg))
      refine (is_from (hT1.grown (hg.alloc _ _)) (Grown.refl _) _ _ _ _ _ _).mono ?_
      rintro e w2 ⟨rfl, hq⟩
      obtain ⟨d0, d1, d2, d3, d4, d5⟩ := (Six.new _ _ _ _ _ _ _ _).grown hq; obtain ⟨c0, c1, c2, c3, c4, c5⟩ := (Six.new _ _ _ _ _ _ _ _).grown (Grown.trans' (hg.alloc _ _) hq)
      go_wp2_with (first | (go_at_call 14; refine (writes_from (hT1.grown (hg.alloc _ _)) hq _ _ _ _ _ _).mono ?_; rintro e w2 ⟨rfl, hq⟩; obtain ⟨d0, d1, d2, d3, d4, d5⟩ := (Six.new _ _ _ _ _ _ _ _).grown hq; obtain ⟨c0, c1, c2, c3, c4, c5⟩ := (Six.new _ _ _ _ _ _ _ _).grown (Grown.trans' (hg.alloc _ _) hq)) | (go_at_call 13; refine (same_from hq _ _ _ _ _ _ _ _ _ _ _ _).mono ?_; rintro e w2 ⟨rfl, hq⟩; obtain ⟨d0, d1, d2, d3, d4, d5⟩ := (Six.new _ _ _ _ _ _ _ _).grown hq; obtain ⟨c0, c1, c2, c3, c4, c5⟩ := (Six.new _ _ _ _ _ _ _ _).grown (Grown.trans' (hg.alloc _ _) hq)))
      go_ret
      exact ⟨rfl, Grown.trans' (Grown.trans' ((Grown.refl _).alloc _ _) (hg.alloc _ _)) hq⟩
    · have hb := bad_imm op rd rs1 rs2 csr
      have hs := same_is h hb
      go_enter Tryd.func5, Tryd.ntmps5
      go_wp2_with (first | (go_at_call 8; refine (known_from hT1 hg).mono ?_; rintro e w' ⟨rfl, hg⟩; obtain ⟨c0, c1, c2, c3, c4, c5⟩ := (Six.new _ _ _ _ _ _ _ _).grown hg) | (go_at_call 11; refine (is_from hT1 hg _ _ _ _ _ _).mono ?_; rintro e w' ⟨rfl, hg⟩; obtain ⟨c0, c1, c2, c3, c4, c5⟩ := (Six.new _ _ _ _ _ _ _ _).grown hg) | (go_at_call 14; refine (writes_from hT1 hg _ _ _ _ _ _).mono ?_; rintro e w' ⟨rfl, hg⟩; obtain ⟨c0, c1, c2, c3, c4, c5⟩ := (Six.new _ _ _ _ _ _ _ _).grown hg))
      refine (is_from (hT1.grown (hg.alloc _ _)) (Grown.refl _) _ _ _ _ _ _).mono ?_
      rintro e w2 ⟨rfl, hq⟩
      obtain ⟨d0, d1, d2, d3, d4, d5⟩ := (Six.new _ _ _ _ _ _ _ _).grown hq; obtain ⟨c0, c1, c2, c3, c4, c5⟩ := (Six.new _ _ _ _ _ _ _ _).grown (Grown.trans' (hg.alloc _ _) hq)
      go_wp2_with (first | (go_at_call 14; refine (writes_from (hT1.grown (hg.alloc _ _)) hq _ _ _ _ _ _).mono ?_; rintro e w2 ⟨rfl, hq⟩; obtain ⟨d0, d1, d2, d3, d4, d5⟩ := (Six.new _ _ _ _ _ _ _ _).grown hq; obtain ⟨c0, c1, c2, c3, c4, c5⟩ := (Six.new _ _ _ _ _ _ _ _).grown (Grown.trans' (hg.alloc _ _) hq)) | (go_at_call 13; refine (same_from hq _ _ _ _ _ _ _ _ _ _ _ _).mono ?_; rintro e w2 ⟨rfl, hq⟩; obtain ⟨d0, d1, d2, d3, d4, d5⟩ := (Six.new _ _ _ _ _ _ _ _).grown hq; obtain ⟨c0, c1, c2, c3, c4, c5⟩ := (Six.new _ _ _ _ _ _ _ _).grown (Grown.trans' (hg.alloc _ _) hq)))
      go_ret
      exact ⟨rfl, Grown.trans' (Grown.trans' ((Grown.refl _).alloc _ _) (hg.alloc _ _)) hq⟩
    · have hb := bad_op rd rs1 rs2 imm csr
      have hs := same_is h hb
      go_enter Tryd.func5, Tryd.ntmps5
      go_wp2_with (first | (go_at_call 8; refine (known_from hT1 hg).mono ?_; rintro e w' ⟨rfl, hg⟩; obtain ⟨c0, c1, c2, c3, c4, c5⟩ := (Six.new _ _ _ _ _ _ _ _).grown hg) | (go_at_call 11; refine (is_from hT1 hg _ _ _ _ _ _).mono ?_; rintro e w' ⟨rfl, hg⟩; obtain ⟨c0, c1, c2, c3, c4, c5⟩ := (Six.new _ _ _ _ _ _ _ _).grown hg) | (go_at_call 14; refine (writes_from hT1 hg _ _ _ _ _ _).mono ?_; rintro e w' ⟨rfl, hg⟩; obtain ⟨c0, c1, c2, c3, c4, c5⟩ := (Six.new _ _ _ _ _ _ _ _).grown hg))
      refine (is_from (hT1.grown (hg.alloc _ _)) (Grown.refl _) _ _ _ _ _ _).mono ?_
      rintro e w2 ⟨rfl, hq⟩
      obtain ⟨d0, d1, d2, d3, d4, d5⟩ := (Six.new _ _ _ _ _ _ _ _).grown hq; obtain ⟨c0, c1, c2, c3, c4, c5⟩ := (Six.new _ _ _ _ _ _ _ _).grown (Grown.trans' (hg.alloc _ _) hq)
      go_wp2_with (first | (go_at_call 14; refine (writes_from (hT1.grown (hg.alloc _ _)) hq _ _ _ _ _ _).mono ?_; rintro e w2 ⟨rfl, hq⟩; obtain ⟨d0, d1, d2, d3, d4, d5⟩ := (Six.new _ _ _ _ _ _ _ _).grown hq; obtain ⟨c0, c1, c2, c3, c4, c5⟩ := (Six.new _ _ _ _ _ _ _ _).grown (Grown.trans' (hg.alloc _ _) hq)) | (go_at_call 13; refine (same_from hq _ _ _ _ _ _ _ _ _ _ _ _).mono ?_; rintro e w2 ⟨rfl, hq⟩; obtain ⟨d0, d1, d2, d3, d4, d5⟩ := (Six.new _ _ _ _ _ _ _ _).grown hq; obtain ⟨c0, c1, c2, c3, c4, c5⟩ := (Six.new _ _ _ _ _ _ _ _).grown (Grown.trans' (hg.alloc _ _) hq)))
      go_ret
      exact ⟨rfl, Grown.trans' (Grown.trans' ((Grown.refl _).alloc _ _) (hg.alloc _ _)) hq⟩
end Go.Proofs.YtgkcmfbkloeohaaDoor
