/-
  sallyportlaw4.EncodeTells, walked whole: true for every instruction.
-/
import Derived.Test.YtdogjmimjjmmaaaDoorETellsY
namespace Go.Proofs.YtdogjmimjjmmaaaDoor
open Go.RowKit
set_option maxRecDepth 100000 in
set_option maxHeartbeats 4000000 in
theorem tells_law (op rd rs1 rs2 imm csr : Int) (W : World) (hT : Tab4 W) :
    Calls Tryd.prog 3 #[.agg #[.int .i64 op, .int .i64 rd, .int .i64 rs1, .int .i64 rs2, .int .i64 imm, .int .i64 csr]] W fun e w' => e = .returned (.bool true) ∧ More W w' := by
  have hT1 := hT.grown ((More.refl W).alloc #[.int .i64 op, .int .i64 rd, .int .i64 rs1, .int .i64 rs2, .int .i64 imm, .int .i64 csr] 23)
  have hg := More.refl (W.alloc (.cells #[.int .i64 op, .int .i64 rd, .int .i64 rs1, .int .i64 rs2, .int .i64 imm, .int .i64 csr] 23))
  cases h : isB op rd rs1 rs2 imm csr
  · have hE := (e_no h).2.1
    go_enter Tryd.func3, Tryd.ntmps3
    go_wp2_with (first | (go_at_call 9; refine (known4_from hT1 hg).mono ?_; rintro e w' ⟨rfl, hg⟩; obtain ⟨c0, c1, c2, c3, c4, c5⟩ := (Six.new _ _ _ _ _ _ _ _).more hg) | (go_at_call 10; refine (enc4_from hT1 hg _ _ _ _ _ _).mono ?_; rintro e w' ⟨rfl, hg⟩; obtain ⟨c0, c1, c2, c3, c4, c5⟩ := (Six.new _ _ _ _ _ _ _ _).more hg) | (go_at_call 11; refine (renc_from hg _ _ _ _ _ _).mono ?_; rintro e w' ⟨rfl, hg⟩; obtain ⟨c0, c1, c2, c3, c4, c5⟩ := (Six.new _ _ _ _ _ _ _ _).more hg))
    clear c0 c1 c2 c3 c4 c5
    have hq : MM (W.alloc (.cells #[.int .i64 op, .int .i64 rd, .int .i64 rs1, .int .i64 rs2, .int .i64 imm, .int .i64 csr] 23)) w'.drew := ⟨hg.drew⟩
    go_region_held3 (fun w' => MM (W.alloc (.cells #[.int .i64 op, .int .i64 rd, .int .i64 rs1, .int .i64 rs2, .int .i64 imm, .int .i64 csr] 23)) w' ∧ w'.cell? ⟨W.heap.size, 0, none⟩ = some (.int .i64 op) ∧ w'.cell? ⟨W.heap.size, 1, none⟩ = some (.int .i64 rd) ∧ w'.cell? ⟨W.heap.size, 2, none⟩ = some (.int .i64 rs1) ∧ w'.cell? ⟨W.heap.size, 3, none⟩ = some (.int .i64 rs2) ∧ w'.cell? ⟨W.heap.size, 4, none⟩ = some (.int .i64 imm) ∧ w'.cell? ⟨W.heap.size, 5, none⟩ = some (.int .i64 csr)) (exact ⟨hq, six_cells hq.g⟩) (first | (go_at_call 12; refine (text4_from hT1 (MM.g (by assumption)) _ _ _ _ _ _).mono ?_; rintro e w' ⟨rfl, hq⟩; replace hq : MM _ _ := ⟨hq⟩) | (go_at_call 13; refine (rtext_from (MM.g (by assumption)) _ _ _ _ _ _).mono ?_; rintro e w' ⟨rfl, hq⟩; replace hq : MM _ _ := ⟨hq⟩))
    go_wp2
    go_ret
    exact ⟨rfl, More.trans' ((More.refl _).alloc _ _) hq.g⟩
  · exact tells_yes op rd rs1 rs2 imm csr h W hT
end Go.Proofs.YtdogjmimjjmmaaaDoor
