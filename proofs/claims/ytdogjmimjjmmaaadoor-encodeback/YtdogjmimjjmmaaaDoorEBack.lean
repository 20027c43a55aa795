/-
  sallyportlaw4.EncodeBack, walked whole: true for every instruction and every word.
-/
import Derived.Test.YtdogjmimjjmmaaaDoorEncFrom
import Derived.Test.YtdogjmimjjmmaaaDoorMade
namespace Go.Proofs.YtdogjmimjjmmaaaDoor
open Go.RowKit
/-- The tables of layers 2, 3 and 4. -/
structure TabB (w : World) : Prop where
  t4 : Tab4 w
  d : Tab w
theorem TabB.grown {a b : World} (h : TabB a) (g : More a b) : TabB b := ⟨h.t4.grown g, ⟨fun i v hi => g.cell (h.d.i i v hi), fun i v hi => g.cell (h.d.g i v hi), fun i v hi => g.cell (h.d.h i v hi)⟩⟩
theorem decode_more {W : World} (hT : Tab W) {w : World} (hg : More W w) (v : Int) (hv0 : 0 ≤ v) (hv1 : v < 4294967296) :
    Calls Tryd.prog 14 #[.int .u32 v] w fun e w' => e = .returned (.tuple #[.agg #[.int .i64 (xOp v), .int .i64 (xRd v), .int .i64 (xRs1 v), .int .i64 (xRs2 v), .int .i64 (xImm v), .int .i64 (xCsr v)], .int .i64 (xE v)]) ∧ More W w' :=
  (decode_any v hv0 hv1 w ⟨fun i v hi => hg.cell (hT.i i v hi), fun i v hi => hg.cell (hT.g i v hi), fun i v hi => hg.cell (hT.h i v hi)⟩).mono fun _ _ h => ⟨h.1, More.trans' hg (Grown.more h.2)⟩
theorem same_refl4 (a b c d e f : Int) : sameB a b c d e f a b c d e f = true := by unfold sameB; simp
theorem neq_insn (op rd rs1 rs2 imm csr op' rd' rs1' rs2' imm' csr' : Int) (w : World) :
    (binOp .neq 23 (.agg #[.int .i64 op, .int .i64 rd, .int .i64 rs1, .int .i64 rs2, .int .i64 imm, .int .i64 csr]) (.agg #[.int .i64 op', .int .i64 rd', .int .i64 rs1', .int .i64 rs2', .int .i64 imm', .int .i64 csr'])).run Tryd.prog w = Result.ok (.bool (!sameB op rd rs1 rs2 imm csr op' rd' rs1' rs2' imm' csr')) w := by
  simp [go_sem]
  unfold sameB
  by_cases h0 : op = op'
  · by_cases h1 : rd = rd'
    · by_cases h2 : rs1 = rs1'
      · by_cases h3 : rs2 = rs2'
        · by_cases h4 : imm = imm'
          · by_cases h5 : csr = csr' <;> simp [h0, h1, h2, h3, h4, h5]
          · simp [h0, h1, h2, h3, h4]
        · simp [h0, h1, h2, h3]
      · simp [h0, h1, h2]
    · simp [h0, h1]
  · simp [h0]
theorem word_back {v : Int} (h : okB v = true) : isB (xOp v) (xRd v) (xRs1 v) (xRs2 v) (xImm v) (xCsr v) = true ∧ eW (xOp v) (xRd v) (xRs1 v) (xRs2 v) (xImm v) (xCsr v) = v ∧ eE (xOp v) (xRd v) (xRs1 v) (xRs2 v) (xImm v) (xCsr v) = 0 ∧ xE v = 0 := by
  rcases hit_ways3 v with ⟨ho, k0, k1, hy, _⟩ | ⟨ho, _, _⟩
  · have hi : isB (xOp v) (xRd v) (xRs1 v) (xRs2 v) (xImm v) (xCsr v) = true := by
      unfold xOp xRd xRs1 xRs2 xImm xCsr
      rw [ho]
      exact (hit_yes hy).2.1
    refine ⟨hi, ?_, (e_yes hi).2.1, by unfold xE; rw [ho]; rfl⟩
    rw [(e_yes hi).1]
    have := eq_of_beq (hit_yes hy).2.2
    unfold xOp xRd xRs1 xRs2 xImm xCsr
    rw [ho]
    exact this
  · rw [ho] at h
    cases h
set_option maxRecDepth 100000 in
set_option maxHeartbeats 4000000 in
theorem back_law (op rd rs1 rs2 imm csr v : Int) (hv0 : 0 ≤ v) (hv1 : v < 4294967296) (W : World) (hT : TabB W) :
    Calls Tryd.prog 4 #[.agg #[.int .i64 op, .int .i64 rd, .int .i64 rs1, .int .i64 rs2, .int .i64 imm, .int .i64 csr], .int .u32 v] W fun e w' => e = .returned (.bool true) ∧ More W w' := by
  have hql := eql_insn
  have hqn := neq_insn
  have hsr := same_refl4 op rd rs1 rs2 imm csr
  have hT1 := hT.grown ((More.refl W).alloc #[.int .i64 op, .int .i64 rd, .int .i64 rs1, .int .i64 rs2, .int .i64 imm, .int .i64 csr] 23)
  have hg := More.refl (W.alloc (.cells #[.int .i64 op, .int .i64 rd, .int .i64 rs1, .int .i64 rs2, .int .i64 imm, .int .i64 csr] 23))
  have hok : (okB v = true ∧ xE v = 0 ∧ eW (xOp v) (xRd v) (xRs1 v) (xRs2 v) (xImm v) (xCsr v) = v ∧ eE (xOp v) (xRd v) (xRs1 v) (xRs2 v) (xImm v) (xCsr v) = 0) ∨ (okB v = false ∧ xE v = 40) := by
    cases h : okB v
    · right; unfold xE; rw [h]; exact ⟨rfl, rfl⟩
    · left; have := word_back h; exact ⟨rfl, this.2.2.2, this.2.1, this.2.2.1⟩
  cases h : isB op rd rs1 rs2 imm csr
  · have hE := (e_no h).2.1
    rcases hok with ⟨h1, h2, h3, h4⟩ | ⟨h1, h2⟩
    all_goals
      go_enter Tryd.func4, Tryd.ntmps4
      go_wp2_with (first | (go_at_call 9; refine (known4_from hT1.t4 hg).mono ?_; rintro e w' ⟨rfl, hg⟩; obtain ⟨c0, c1, c2, c3, c4, c5⟩ := (Six.new _ _ _ _ _ _ _ _).more hg) | (go_at_call 10; refine (enc4_from hT1.t4 hg _ _ _ _ _ _).mono ?_; rintro e w' ⟨rfl, hg⟩; obtain ⟨c0, c1, c2, c3, c4, c5⟩ := (Six.new _ _ _ _ _ _ _ _).more hg))
      refine (decode_more hT1.d hg v hv0 hv1).mono ?_
      rintro e w2 ⟨rfl, hg⟩
      have hT2 := (hT1.grown hg).grown ((More.refl w2).alloc #[.int .i64 (xOp v), .int .i64 (xRd v), .int .i64 (xRs1 v), .int .i64 (xRs2 v), .int .i64 (xImm v), .int .i64 (xCsr v)] 23)
      have hg2 := More.refl (w2.alloc (.cells #[.int .i64 (xOp v), .int .i64 (xRd v), .int .i64 (xRs1 v), .int .i64 (xRs2 v), .int .i64 (xImm v), .int .i64 (xCsr v)] 23))
      go_wp2_with (go_at_call 10; refine (enc4_from hT2.t4 hg2 _ _ _ _ _ _).mono ?_; rintro e w' ⟨rfl, hg2⟩)
      go_ret
      exact ⟨rfl, More.trans' (More.trans' ((More.refl _).alloc _ _) hg) (More.trans' ((More.refl _).alloc _ _) hg2)⟩
  · have hE := (e_yes h).2.1
    obtain ⟨k0, k1⟩ := cls_of_is h
    have hm := made_any op rd rs1 rs2 imm csr _ h rfl
    rw [← (e_yes h).1] at hm
    obtain ⟨x0, x1, x2, x3, x4, x5, x6⟩ := reads_made k0 k1 hm
    have m0 := hm.b0
    have m1 := hm.b1
    clear hm
    rcases hok with ⟨h1, h2, h3, h4⟩ | ⟨h1, h2⟩
    all_goals
      go_enter Tryd.func4, Tryd.ntmps4
      go_wp2_with (first | (go_at_call 9; refine (known4_from hT1.t4 hg).mono ?_; rintro e w' ⟨rfl, hg⟩; obtain ⟨c0, c1, c2, c3, c4, c5⟩ := (Six.new _ _ _ _ _ _ _ _).more hg) | (go_at_call 10; refine (enc4_from hT1.t4 hg _ _ _ _ _ _).mono ?_; rintro e w' ⟨rfl, hg⟩; obtain ⟨c0, c1, c2, c3, c4, c5⟩ := (Six.new _ _ _ _ _ _ _ _).more hg))
      refine (decode_more hT1.d hg (eW op rd rs1 rs2 imm csr) m0 m1).mono ?_
      rw [x0, x1, x2, x3, x4, x5, x6]
      rintro e w1 ⟨rfl, hg⟩
      obtain ⟨c0, c1, c2, c3, c4, c5⟩ := ((Six.new W 23 op rd rs1 rs2 imm csr).more hg).more ((More.refl w1).alloc #[.int .i64 op, .int .i64 rd, .int .i64 rs1, .int .i64 rs2, .int .i64 imm, .int .i64 csr] 23)
      have hT1b := (hT1.grown hg).grown ((More.refl w1).alloc #[.int .i64 op, .int .i64 rd, .int .i64 rs1, .int .i64 rs2, .int .i64 imm, .int .i64 csr] 23)
      have hg1 := More.refl (w1.alloc (.cells #[.int .i64 op, .int .i64 rd, .int .i64 rs1, .int .i64 rs2, .int .i64 imm, .int .i64 csr] 23))
      go_wp2_with fail
      refine (decode_more hT1b.d hg1 v hv0 hv1).mono ?_
      rintro e w2 ⟨rfl, hg1⟩
      have hT2 := (hT1b.grown hg1).grown ((More.refl w2).alloc #[.int .i64 (xOp v), .int .i64 (xRd v), .int .i64 (xRs1 v), .int .i64 (xRs2 v), .int .i64 (xImm v), .int .i64 (xCsr v)] 23)
      have hg2 := More.refl (w2.alloc (.cells #[.int .i64 (xOp v), .int .i64 (xRd v), .int .i64 (xRs1 v), .int .i64 (xRs2 v), .int .i64 (xImm v), .int .i64 (xCsr v)] 23))
      go_wp2_with (go_at_call 10; refine (enc4_from hT2.t4 hg2 _ _ _ _ _ _).mono ?_; rintro e w' ⟨rfl, hg2⟩)
      go_ret
      exact ⟨rfl, More.trans' (More.trans' ((More.refl _).alloc _ _) hg) (More.trans' ((More.refl _).alloc _ _) (More.trans' hg1 (More.trans' ((More.refl _).alloc _ _) hg2)))⟩
end Go.Proofs.YtdogjmimjjmmaaaDoor
