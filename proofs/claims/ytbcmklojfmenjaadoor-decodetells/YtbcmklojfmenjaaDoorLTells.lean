/-
  sallyportlaw3.DecodeTells, walked whole: true for every word and every number.
-/
import Derived.Test.YtbcmklojfmenjaaDoorKnown3
namespace Go.Proofs.YtbcmklojfmenjaaDoor
open Go.RowKit
set_option maxHeartbeats 4000000 in
theorem tells_law (v op : Int) (hv0 : 0 ≤ v) (hv1 : v < 4294967296) (w : World) (hT : Tab w) :
    Calls Tryd.prog 3 #[.int .u32 v, .int .i64 op] w fun e w' => e = .returned (.bool true) ∧ Grown w w' := by
  have hq := eql_insn
  have hr := same_refl
  have hm : bits .and .u32 v 127 = v % 128 := and127 hv0 hv1
  have hg := Grown.refl w
  have hok : (okB v = true ∧ xE v = 0) ∨ (okB v = false ∧ xE v = 40) := by unfold xE; cases okB v <;> simp
  rcases hok with ⟨h1, h2⟩ | ⟨h1, h2⟩
  all_goals
    go_enter Tryd.func3, Tryd.ntmps3
    go_wp2_with (go_at_call 8; refine (known_from hT hg).mono ?_; rintro e w0 ⟨rfl, hg⟩)
    refine (decode_from hT hg v hv0 hv1).mono ?_
    rintro e w1 ⟨rfl, hg⟩
    go_wp2_with fail
    have hg1 := Grown.refl (w1.alloc (.cells #[.int .i64 (xOp (v)), .int .i64 (xRd (v)), .int .i64 (xRs1 (v)), .int .i64 (xRs2 (v)), .int .i64 (xImm (v)), .int .i64 (xCsr (v))] 25))
    have hT1 := (hT.grown hg).grown ((Grown.refl w1).alloc #[.int .i64 (xOp (v)), .int .i64 (xRd (v)), .int .i64 (xRs1 (v)), .int .i64 (xRs2 (v)), .int .i64 (xImm (v)), .int .i64 (xCsr (v))] 25)
    refine (rdecode_from hg1 v hv0 hv1).mono ?_
    rintro e w2 ⟨rfl, hg1⟩
    obtain ⟨c0, c1, c2, c3, c4, c5⟩ := ((Six.new _ _ _ _ _ _ _ _).grown hg1).grown ((Grown.refl w2).alloc #[.int .i64 (xOp (v)), .int .i64 (xRd (v)), .int .i64 (xRs1 (v)), .int .i64 (xRs2 (v)), .int .i64 (xImm (v)), .int .i64 (xCsr (v))] 25)
    have hT2 := (hT1.grown hg1).grown ((Grown.refl w2).alloc #[.int .i64 (xOp (v)), .int .i64 (xRd (v)), .int .i64 (xRs1 (v)), .int .i64 (xRs2 (v)), .int .i64 (xImm (v)), .int .i64 (xCsr (v))] 25)
    have hg2 := Grown.refl (w2.alloc (.cells #[.int .i64 (xOp (v)), .int .i64 (xRd (v)), .int .i64 (xRs1 (v)), .int .i64 (xRs2 (v)), .int .i64 (xImm (v)), .int .i64 (xCsr (v))] 25))
    go_wp2_with (first | (go_at_call 11; refine (opcode_any _ (by omega) (by omega) _).mono ?_; rintro e w' ⟨rfl, rfl⟩) | (go_at_call 12; refine (format_from hT2 hg2 _).mono ?_; rintro e w' ⟨rfl, hg2⟩) | (go_at_call 13; refine (fmt_law _ _).mono ?_; rintro e w' ⟨rfl, rfl⟩))
    go_ret
    exact ⟨rfl, Grown.trans' hg (Grown.trans' ((Grown.refl _).alloc _ _) (Grown.trans' hg1 (Grown.trans' ((Grown.refl _).alloc _ _) hg2)))⟩
end Go.Proofs.YtbcmklojfmenjaaDoor
