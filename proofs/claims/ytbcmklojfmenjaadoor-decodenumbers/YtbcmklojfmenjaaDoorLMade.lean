/-
  sallyportlaw3.DecodeMade, walked whole: true for every instruction.
-/
import Derived.Test.YtbcmklojfmenjaaDoorMade
import Derived.Test.YtbcmklojfmenjaaDoorKnown3
namespace Go.Proofs.YtbcmklojfmenjaaDoor
open Go.RowKit
theorem enc_none_from {W w : World} (hg : Grown W w) (op rd rs1 rs2 imm csr : Int) (h : isB op rd rs1 rs2 imm csr = false) :
    Calls Tryd.prog 14 #[.agg #[.int .i64 op, .int .i64 rd, .int .i64 rs1, .int .i64 rs2, .int .i64 imm, .int .i64 csr]] w fun e w' => e = .returned (.tuple #[.int .u32 0, .bool false]) ∧ Grown W w' :=
  (encode_none _ _ _ _ _ _ h w).mono fun _ _ h => ⟨h.1, Grown.trans' hg h.2⟩
theorem enc_from {W w : World} (hg : Grown W w) (op rd rs1 rs2 imm csr v : Int) (h : isB op rd rs1 rs2 imm csr = true) (hv : v = encI op rd rs1 rs2 (imm % 4294967296) csr) :
    Calls Tryd.prog 14 #[.agg #[.int .i64 op, .int .i64 rd, .int .i64 rs1, .int .i64 rs2, .int .i64 imm, .int .i64 csr]] w fun e w' => e = .returned (.tuple #[.int .u32 v, .bool true]) ∧ Grown W w' := by
  rw [hv]
  exact (encode_any _ _ _ _ _ _ h w).mono fun _ _ h => ⟨h.1, Grown.trans' hg h.2⟩
set_option maxHeartbeats 4000000 in
theorem made_law (op rd rs1 rs2 imm csr : Int) (W : World) (hT : Tab W) :
    Calls Tryd.prog 4 #[.agg #[.int .i64 op, .int .i64 rd, .int .i64 rs1, .int .i64 rs2, .int .i64 imm, .int .i64 csr]] W fun e w' => e = .returned (.bool true) ∧ Grown W w' := by
  have hq := eql_insn
  have hr := same_refl op rd rs1 rs2 imm csr
  have hT1 := hT.grown ((Grown.refl W).alloc #[.int .i64 op, .int .i64 rd, .int .i64 rs1, .int .i64 rs2, .int .i64 imm, .int .i64 csr] 25)
  have hg := Grown.refl (W.alloc (.cells #[.int .i64 op, .int .i64 rd, .int .i64 rs1, .int .i64 rs2, .int .i64 imm, .int .i64 csr] 25))
  cases h : isB op rd rs1 rs2 imm csr
  · go_enter Tryd.func4, Tryd.ntmps4
    go_wp2_with (first | (go_at_call 8; refine (known_from hT1 hg).mono ?_; rintro e w' ⟨rfl, hg⟩; obtain ⟨c0, c1, c2, c3, c4, c5⟩ := (Six.new _ _ _ _ _ _ _ _).grown hg) | (go_at_call 14; refine (enc_none_from hg _ _ _ _ _ _ h).mono ?_; rintro e w' ⟨rfl, hg⟩; obtain ⟨c0, c1, c2, c3, c4, c5⟩ := (Six.new _ _ _ _ _ _ _ _).grown hg))
    go_ret
    exact ⟨rfl, Grown.trans' ((Grown.refl _).alloc _ _) hg⟩
  · obtain ⟨v, hv⟩ : ∃ v, v = encI op rd rs1 rs2 (imm % 4294967296) csr := ⟨_, rfl⟩
    have hm := made_any op rd rs1 rs2 imm csr v h hv
    obtain ⟨k0, k1⟩ := cls_of_is h
    obtain ⟨x0, x1, x2, x3, x4, x5, x6⟩ := reads_made k0 k1 hm
    have hv0 := hm.b0
    have hv1 := hm.b1
    clear hm
    have henc := fun (w : World) (hg : Grown (W.alloc (.cells #[.int .i64 op, .int .i64 rd, .int .i64 rs1, .int .i64 rs2, .int .i64 imm, .int .i64 csr] 25)) w) => enc_from hg op rd rs1 rs2 imm csr v h hv
    clear hv h
    go_enter Tryd.func4, Tryd.ntmps4
    go_wp2_with (first | (go_at_call 8; refine (known_from hT1 hg).mono ?_; rintro e w' ⟨rfl, hg⟩; obtain ⟨c0, c1, c2, c3, c4, c5⟩ := (Six.new _ _ _ _ _ _ _ _).grown hg) | (go_at_call 14; refine (henc _ hg).mono ?_; rintro e w' ⟨rfl, hg⟩))
    refine (decode_from hT1 hg v hv0 hv1).mono ?_
    rw [x0, x1, x2, x3, x4, x5, x6]
    clear x0 x1 x2 x3 x4 x5 x6 henc
    rintro e w2 ⟨rfl, hg⟩
    obtain ⟨c0, c1, c2, c3, c4, c5⟩ := ((Six.new W 25 op rd rs1 rs2 imm csr).grown hg).grown ((Grown.refl w2).alloc #[.int .i64 op, .int .i64 rd, .int .i64 rs1, .int .i64 rs2, .int .i64 imm, .int .i64 csr] 25)
    go_wp2_with fail
    go_ret
    exact ⟨rfl, Grown.trans' (Grown.trans' ((Grown.refl _).alloc _ _) hg) ((Grown.refl _).alloc _ _)⟩
end Go.Proofs.YtbcmklojfmenjaaDoor
