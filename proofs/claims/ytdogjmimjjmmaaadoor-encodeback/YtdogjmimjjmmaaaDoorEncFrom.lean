/-
  The contracts of layer 4's calls, as the walks of its laws use them.
-/
import Derived.Test.YtdogjmimjjmmaaaDoorEncKnown
namespace Go.Proofs.YtdogjmimjjmmaaaDoor
open Go.RowKit
theorem enc4_from {W : World} (hT : Tab4 W) {w : World} (hg : More W w) (op rd rs1 rs2 imm csr : Int) :
    Calls Tryd.prog 10 #[.agg #[.int .i64 op, .int .i64 rd, .int .i64 rs1, .int .i64 rs2, .int .i64 imm, .int .i64 csr]] w fun e w' => e = .returned (.tuple #[.int .u32 (eW op rd rs1 rs2 imm csr), .int .i64 (eE op rd rs1 rs2 imm csr)]) ∧ More W w' :=
  (enc4_any op rd rs1 rs2 imm csr w (hT.grown hg)).mono fun _ _ h => ⟨h.1, More.trans' hg (Grown.more h.2)⟩
theorem text4_from {W : World} (hT : Tab4 W) {w : World} (hg : More W w) (op rd rs1 rs2 imm csr : Int) :
    Calls Tryd.prog 12 #[.agg #[.int .i64 op, .int .i64 rd, .int .i64 rs1, .int .i64 rs2, .int .i64 imm, .int .i64 csr]] w fun e w' => e = .returned (.string (bs (tS op rd rs1 rs2 imm csr))) ∧ More W w' :=
  (text4_any op rd rs1 rs2 imm csr w (hT.grown hg)).mono fun _ _ h => ⟨h.1, More.trans' hg h.2⟩
theorem known4_from {W : World} (hT : Tab4 W) {w : World} (hg : More W w) :
    Calls Tryd.prog 9 #[] w fun e w' => e = .returned (.bool true) ∧ More W w' :=
  (known4_any w (hT.grown hg)).mono fun _ _ h => ⟨h.1, More.trans' hg h.2⟩
theorem renc_from {W w : World} (hg : More W w) (op rd rs1 rs2 imm csr : Int) :
    Calls Tryd.prog 11 #[.agg #[.int .i64 op, .int .i64 rd, .int .i64 rs1, .int .i64 rs2, .int .i64 imm, .int .i64 csr]] w fun e w' => e = .returned (.tuple #[.int .u32 (eW op rd rs1 rs2 imm csr), .bool (isB op rd rs1 rs2 imm csr)]) ∧ More W w' := by
  cases h : isB op rd rs1 rs2 imm csr
  · rw [(e_no h).1]
    exact (encode_none op rd rs1 rs2 imm csr h w).mono fun _ _ h => ⟨h.1, More.trans' hg (Grown.more h.2)⟩
  · rw [(e_yes h).1]
    exact (encode_any op rd rs1 rs2 imm csr h w).mono fun _ _ h => ⟨h.1, More.trans' hg (Grown.more h.2)⟩
theorem rtext_from {W w : World} (hg : More W w) (op rd rs1 rs2 imm csr : Int) :
    Calls Tryd.prog 13 #[.agg #[.int .i64 op, .int .i64 rd, .int .i64 rs1, .int .i64 rs2, .int .i64 imm, .int .i64 csr]] w fun e w' => e = .returned (.string (bs (tS op rd rs1 rs2 imm csr))) ∧ More W w' := by
  cases h : isB op rd rs1 rs2 imm csr
  · rw [(e_no h).2.2]
    exact (text_none op rd rs1 rs2 imm csr h w).mono fun _ _ h => ⟨h.1, More.trans' hg (Grown.more h.2)⟩
  · rw [(e_yes h).2.2]
    exact (text_any op rd rs1 rs2 imm csr h w).mono fun _ _ h => ⟨h.1, More.trans' hg (Grown.more h.2)⟩
end Go.Proofs.YtdogjmimjjmmaaaDoor
