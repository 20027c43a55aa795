/-
  What the document's Writes and Reads answer (the reference of layers 2 to 4): walked whole, for every instruction.
-/
import Derived.Test.YtgkcmfbkloeohaaDoorRefIs
namespace Go.Proofs.YtgkcmfbkloeohaaDoor
open Go.RowKit
/-- n where b holds, else 0. -/
def orZ (b : Bool) (n : Int) : Int := cond b n 0
set_option maxHeartbeats 400000 in
theorem rwrites_any (op rd rs1 rs2 imm csr : Int) (w : World) :
    Calls Tryd.prog 15 #[.agg #[.int .i64 op, .int .i64 rd, .int .i64 rs1, .int .i64 rs2, .int .i64 imm, .int .i64 csr]] w fun e w' => e = .returned (.int .i64 (orZ (isB op rd rs1 rs2 imm csr) rd)) ∧ Grown w w' := by
  cases h : isB op rd rs1 rs2 imm csr
  all_goals
    go_enter Tryd.func15, Tryd.ntmps15
    go_wp2_with (go_at_call 12; refine (ris_any _ _ _ _ _ _ _).mono ?_; rintro e w' ⟨rfl, hg⟩; obtain ⟨c0, c1, c2, c3, c4, c5⟩ := (Six.new _ _ _ _ _ _ _ _).grown hg)
  all_goals
    go_ret
    exact ⟨rfl, Grown.trans' ((Grown.refl _).alloc _ _) hg⟩
set_option maxHeartbeats 400000 in
theorem rreads_any (op rd rs1 rs2 imm csr : Int) (w : World) :
    Calls Tryd.prog 10 #[.agg #[.int .i64 op, .int .i64 rd, .int .i64 rs1, .int .i64 rs2, .int .i64 imm, .int .i64 csr]] w
      fun e w' => e = .returned (.tuple #[.int .i64 (orZ (isB op rd rs1 rs2 imm csr) rs1), .int .i64 (orZ (isB op rd rs1 rs2 imm csr) rs2)]) ∧ Grown w w' := by
  cases h : isB op rd rs1 rs2 imm csr
  all_goals
    go_enter Tryd.func10, Tryd.ntmps10
    go_wp2_with (go_at_call 12; refine (ris_any _ _ _ _ _ _ _).mono ?_; rintro e w' ⟨rfl, hg⟩; obtain ⟨c0, c1, c2, c3, c4, c5⟩ := (Six.new _ _ _ _ _ _ _ _).grown hg)
  · go_ret2
    exact ⟨rfl, Grown.trans' ((Grown.refl _).alloc _ _) hg⟩
  · go_region
    go_wp2
    go_ret2
    exact ⟨rfl, (Grown.trans' ((Grown.refl _).alloc _ _) hg).drew⟩
end Go.Proofs.YtgkcmfbkloeohaaDoor
