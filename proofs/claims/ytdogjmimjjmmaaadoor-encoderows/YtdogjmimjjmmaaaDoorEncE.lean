/-
  What package encode's Encode answers: walked whole, for every instruction.
-/
import Derived.Test.YtdogjmimjjmmaaaDoorEncMore
import Derived.Test.YtdogjmimjjmmaaaDoorEncSum
import Derived.Test.YtdogjmimjjmmaaaDoorEncDefs
import Derived.Test.YtdogjmimjjmmaaaDoorIsIn
namespace Go.Proofs.YtdogjmimjjmmaaaDoor
open Go.RowKit
theorem six_g {W w' : World} {op rd rs1 rs2 imm csr : Int} (hg : Grown (W.alloc (.cells #[.int .i64 op, .int .i64 rd, .int .i64 rs1, .int .i64 rs2, .int .i64 imm, .int .i64 csr] 23)) w') : w'.cell? ⟨W.heap.size, 0, none⟩ = some (.int .i64 op) ∧ w'.cell? ⟨W.heap.size, 1, none⟩ = some (.int .i64 rd) ∧ w'.cell? ⟨W.heap.size, 2, none⟩ = some (.int .i64 rs1) ∧ w'.cell? ⟨W.heap.size, 3, none⟩ = some (.int .i64 rs2) ∧ w'.cell? ⟨W.heap.size, 4, none⟩ = some (.int .i64 imm) ∧ w'.cell? ⟨W.heap.size, 5, none⟩ = some (.int .i64 csr) := by
  obtain ⟨c0, c1, c2, c3, c4, c5⟩ := (Six.new W 23 op rd rs1 rs2 imm csr).grown hg
  exact ⟨c0, c1, c2, c3, c4, c5⟩
set_option maxRecDepth 100000 in
set_option maxHeartbeats 1000000 in
theorem enc4_no (op rd rs1 rs2 imm csr : Int) (h : isB op rd rs1 rs2 imm csr = false) (W : World) (hT : Tab4 W) :
    Calls Tryd.prog 10 #[.agg #[.int .i64 op, .int .i64 rd, .int .i64 rs1, .int .i64 rs2, .int .i64 imm, .int .i64 csr]] W fun e w' => e = .returned (.tuple #[.int .u32 0, .int .i64 40]) ∧ Grown W w' := by
  have hT1 := hT.grown ((More.refl W).alloc #[.int .i64 op, .int .i64 rd, .int .i64 rs1, .int .i64 rs2, .int .i64 imm, .int .i64 csr] 23)
  go_enter Tryd.func10, Tryd.ntmps10
  go_wp2_with (go_at_call 17; refine (is_in _ _ _ _ _ _ _ hT1.i).mono ?_; rintro e w' ⟨rfl, hg⟩)
  go_ret2
  exact ⟨rfl, Grown.trans' ((Grown.refl _).alloc _ _) hg⟩
theorem ret_two {a b : Int} (h : a = b) : Ending.returned (.tuple #[.int .u32 a, .int .i64 0]) = .returned (.tuple #[.int .u32 b, .int .i64 0]) := by rw [h]
set_option maxRecDepth 100000 in
set_option maxHeartbeats 4000000 in
theorem enc4_yes (op rd rs1 rs2 imm csr : Int) (h : isB op rd rs1 rs2 imm csr = true) (W : World) (hT : Tab4 W) :
    Calls Tryd.prog 10 #[.agg #[.int .i64 op, .int .i64 rd, .int .i64 rs1, .int .i64 rs2, .int .i64 imm, .int .i64 csr]] W fun e w' => e = .returned (.tuple #[.int .u32 (encI op rd rs1 rs2 (imm % 4294967296) csr), .int .i64 0]) ∧ Grown W w' := by
  have hT1 := hT.grown ((More.refl W).alloc #[.int .i64 op, .int .i64 rd, .int .i64 rs1, .int .i64 rs2, .int .i64 imm, .int .i64 csr] 23)
  have hsum : Hid (IntKind.u32.wrap (bits .or .u64 (bits .or .u64 (headE op) (fieldsE rd rs1 rs2 csr)) (numE op (IntKind.u64.wrap imm))) = encI op rd rs1 rs2 (imm % 4294967296) csr) := enc_math h
  have hop : Hid (1 ≤ op ∧ op ≤ 69) := cls_of_is h
  have hd : ∀ {w : World}, GK (W.alloc (.cells #[.int .i64 op, .int .i64 rd, .int .i64 rs1, .int .i64 rs2, .int .i64 imm, .int .i64 csr] 23)) w → Calls Tryd.prog 18 #[.int .i64 op] w fun e w' => e = .returned (.int .u64 (headE op)) ∧ GK (W.alloc (.cells #[.int .i64 op, .int .i64 rd, .int .i64 rs1, .int .i64 rs2, .int .i64 imm, .int .i64 csr] 23)) w' := fun q => (ehead_any op hop.out.1 hop.out.2 _ (hT1.grown (Grown.more q.g)).k (hT1.grown (Grown.more q.g)).f (hT1.grown (Grown.more q.g)).t).mono fun _ _ k => ⟨k.1, ⟨Grown.trans' q.g k.2⟩⟩
  have fd : ∀ {w : World}, GK (W.alloc (.cells #[.int .i64 op, .int .i64 rd, .int .i64 rs1, .int .i64 rs2, .int .i64 imm, .int .i64 csr] 23)) w → Calls Tryd.prog 19 #[.agg #[.int .i64 op, .int .i64 rd, .int .i64 rs1, .int .i64 rs2, .int .i64 imm, .int .i64 csr]] w fun e w' => e = .returned (.int .u64 (fieldsE rd rs1 rs2 csr)) ∧ GK (W.alloc (.cells #[.int .i64 op, .int .i64 rd, .int .i64 rs1, .int .i64 rs2, .int .i64 imm, .int .i64 csr] 23)) w' := fun q => (efields_any op rd rs1 rs2 imm csr _).mono fun _ _ k => ⟨k.1, ⟨Grown.trans' q.g k.2⟩⟩
  have nd : ∀ {w : World}, GK (W.alloc (.cells #[.int .i64 op, .int .i64 rd, .int .i64 rs1, .int .i64 rs2, .int .i64 imm, .int .i64 csr] 23)) w → Calls Tryd.prog 20 #[.agg #[.int .i64 op, .int .i64 rd, .int .i64 rs1, .int .i64 rs2, .int .i64 imm, .int .i64 csr]] w fun e w' => e = .returned (.int .u64 (numE op (IntKind.u64.wrap imm))) ∧ GK (W.alloc (.cells #[.int .i64 op, .int .i64 rd, .int .i64 rs1, .int .i64 rs2, .int .i64 imm, .int .i64 csr] 23)) w' := fun q => (enumber_any op rd rs1 rs2 imm csr _ (hT1.grown (Grown.more q.g)).i).mono fun _ _ k => ⟨k.1, ⟨Grown.trans' q.g k.2⟩⟩
  go_enter Tryd.func10, Tryd.ntmps10
  go_wp2_with (go_at_call 17; refine (is_in _ _ _ _ _ _ _ hT1.i).mono ?_; rintro e w' ⟨rfl, hg⟩)
  have hq : GK (W.alloc (.cells #[.int .i64 op, .int .i64 rd, .int .i64 rs1, .int .i64 rs2, .int .i64 imm, .int .i64 csr] 23)) w'.drew := ⟨hg.drew⟩
  clear hg
  go_region_held3 (fun w' => GK (W.alloc (.cells #[.int .i64 op, .int .i64 rd, .int .i64 rs1, .int .i64 rs2, .int .i64 imm, .int .i64 csr] 23)) w' ∧ w'.cell? ⟨W.heap.size, 0, none⟩ = some (.int .i64 op) ∧ w'.cell? ⟨W.heap.size, 1, none⟩ = some (.int .i64 rd) ∧ w'.cell? ⟨W.heap.size, 2, none⟩ = some (.int .i64 rs1) ∧ w'.cell? ⟨W.heap.size, 3, none⟩ = some (.int .i64 rs2) ∧ w'.cell? ⟨W.heap.size, 4, none⟩ = some (.int .i64 imm) ∧ w'.cell? ⟨W.heap.size, 5, none⟩ = some (.int .i64 csr)) (exact ⟨hq, six_g hq.g⟩) (first | (go_at_call 18; refine (hd (by assumption)).mono ?_; rintro e w' ⟨rfl, hq⟩) | (go_at_call 19; refine (fd (by assumption)).mono ?_; rintro e w' ⟨rfl, hq⟩) | (go_at_call 20; refine (nd (by assumption)).mono ?_; rintro e w' ⟨rfl, hq⟩))
  all_goals
    go_wp2_with fail
    go_ret2
    exact ⟨ret_two hsum.out, Grown.trans' ((Grown.refl _).alloc _ _) hq.g⟩
theorem enc4_any (op rd rs1 rs2 imm csr : Int) (w : World) (hT : Tab4 w) :
    Calls Tryd.prog 10 #[.agg #[.int .i64 op, .int .i64 rd, .int .i64 rs1, .int .i64 rs2, .int .i64 imm, .int .i64 csr]] w fun e w' => e = .returned (.tuple #[.int .u32 (eW op rd rs1 rs2 imm csr), .int .i64 (eE op rd rs1 rs2 imm csr)]) ∧ Grown w w' := by
  cases h : isB op rd rs1 rs2 imm csr
  · rw [(e_no h).1, (e_no h).2.1]
    exact enc4_no op rd rs1 rs2 imm csr h w hT
  · rw [(e_yes h).1, (e_yes h).2.1]
    exact enc4_yes op rd rs1 rs2 imm csr h w hT
end Go.Proofs.YtdogjmimjjmmaaaDoor
