/-
  sallyportlaw2.InsnTells, walked whole: true for every two instructions and every number, in whatever order its last line is reckoned.
-/
import Derived.Test.YtgkcmfbkloeohaaDoorKnown
import Derived.Deep.RegionHeld3
namespace Go.Proofs.YtgkcmfbkloeohaaDoor
open Go.RowKit
theorem ris_from {W w : World} (hg : Grown W w) (op rd rs1 rs2 imm csr : Int) :
    Calls Tryd.prog 12 #[.agg #[.int .i64 op, .int .i64 rd, .int .i64 rs1, .int .i64 rs2, .int .i64 imm, .int .i64 csr]] w fun e w' => e = .returned (.bool (isB op rd rs1 rs2 imm csr)) ∧ Grown W w' :=
  (ris_any op rd rs1 rs2 imm csr w).mono fun _ _ h => ⟨h.1, Grown.trans' hg h.2⟩
theorem rclass_from {W w : World} (hg : Grown W w) (op : Int) :
    Calls Tryd.prog 19 #[.int .i64 op] w fun e w' => e = .returned (.int .i64 (clsI op)) ∧ Grown W w' :=
  (rclass_any op w).mono fun _ _ h => ⟨h.1, by rw [h.2]; exact hg⟩
theorem rsize_from {W w : World} (hg : Grown W w) (op : Int) :
    Calls Tryd.prog 21 #[.int .i64 op] w fun e w' => e = .returned (.int .i64 (szI op)) ∧ Grown W w' :=
  (rsize_any op w).mono fun _ _ h => ⟨h.1, by rw [h.2]; exact hg⟩
theorem rname_from {W w : World} (hg : Grown W w) (op : Int) :
    Calls Tryd.prog 17 #[.int .i64 op] w fun e w' => e = .returned (.string (nameS op)) ∧ Grown W w' :=
  (rname_any op w).mono fun _ _ h => ⟨h.1, Grown.trans' hg h.2⟩
theorem rwrites_from {W w : World} (hg : Grown W w) (op rd rs1 rs2 imm csr : Int) :
    Calls Tryd.prog 15 #[.agg #[.int .i64 op, .int .i64 rd, .int .i64 rs1, .int .i64 rs2, .int .i64 imm, .int .i64 csr]] w fun e w' => e = .returned (.int .i64 (orZ (isB op rd rs1 rs2 imm csr) rd)) ∧ Grown W w' :=
  (rwrites_any op rd rs1 rs2 imm csr w).mono fun _ _ h => ⟨h.1, Grown.trans' hg h.2⟩
theorem rreads_from {W w : World} (hg : Grown W w) (op rd rs1 rs2 imm csr : Int) :
    Calls Tryd.prog 10 #[.agg #[.int .i64 op, .int .i64 rd, .int .i64 rs1, .int .i64 rs2, .int .i64 imm, .int .i64 csr]] w fun e w' => e = .returned (.tuple #[.int .i64 (orZ (isB op rd rs1 rs2 imm csr) rs1), .int .i64 (orZ (isB op rd rs1 rs2 imm csr) rs2)]) ∧ Grown W w' :=
  (rreads_any op rd rs1 rs2 imm csr w).mono fun _ _ h => ⟨h.1, Grown.trans' hg h.2⟩
theorem two_cells {W w' : World} {op rd rs1 rs2 imm csr op' rd' rs1' rs2' imm' csr' : Int} (hg : Grown ((W.alloc (.cells #[.int .i64 op, .int .i64 rd, .int .i64 rs1, .int .i64 rs2, .int .i64 imm, .int .i64 csr] 23)).alloc (.cells #[.int .i64 op', .int .i64 rd', .int .i64 rs1', .int .i64 rs2', .int .i64 imm', .int .i64 csr'] 23)) w') :
    w'.cell? ⟨W.heap.size, 0, none⟩ = some (.int .i64 op) ∧ w'.cell? ⟨W.heap.size, 1, none⟩ = some (.int .i64 rd) ∧ w'.cell? ⟨W.heap.size, 2, none⟩ = some (.int .i64 rs1) ∧ w'.cell? ⟨W.heap.size, 3, none⟩ = some (.int .i64 rs2) ∧ w'.cell? ⟨W.heap.size, 4, none⟩ = some (.int .i64 imm) ∧ w'.cell? ⟨W.heap.size, 5, none⟩ = some (.int .i64 csr) ∧ w'.cell? ⟨W.heap.size + 1, 0, none⟩ = some (.int .i64 op') ∧ w'.cell? ⟨W.heap.size + 1, 1, none⟩ = some (.int .i64 rd') ∧ w'.cell? ⟨W.heap.size + 1, 2, none⟩ = some (.int .i64 rs1') ∧ w'.cell? ⟨W.heap.size + 1, 3, none⟩ = some (.int .i64 rs2') ∧ w'.cell? ⟨W.heap.size + 1, 4, none⟩ = some (.int .i64 imm') ∧ w'.cell? ⟨W.heap.size + 1, 5, none⟩ = some (.int .i64 csr') := by
  obtain ⟨c0, c1, c2, c3, c4, c5⟩ := ((Six.new W 23 op rd rs1 rs2 imm csr).grown ((Grown.refl _).alloc #[.int .i64 op', .int .i64 rd', .int .i64 rs1', .int .i64 rs2', .int .i64 imm', .int .i64 csr'] 23)).grown hg
  obtain ⟨d0, d1, d2, d3, d4, d5⟩ := (Six.new (W.alloc (.cells #[.int .i64 op, .int .i64 rd, .int .i64 rs1, .int .i64 rs2, .int .i64 imm, .int .i64 csr] 23)) 23 op' rd' rs1' rs2' imm' csr').grown hg
  have e : (W.alloc (.cells #[.int .i64 op, .int .i64 rd, .int .i64 rs1, .int .i64 rs2, .int .i64 imm, .int .i64 csr] 23)).heap.size = W.heap.size + 1 := Array.size_push ..
  rw [e] at d0 d1 d2 d3 d4 d5
  exact ⟨c0, c1, c2, c3, c4, c5, d0, d1, d2, d3, d4, d5⟩
set_option maxHeartbeats 8000000 in
theorem tells_law (op rd rs1 rs2 imm csr op' rd' rs1' rs2' imm' csr' n : Int) (W : World) (hT : Tab W) :
    Calls Tryd.prog 3 #[.agg #[.int .i64 op, .int .i64 rd, .int .i64 rs1, .int .i64 rs2, .int .i64 imm, .int .i64 csr], .agg #[.int .i64 op', .int .i64 rd', .int .i64 rs1', .int .i64 rs2', .int .i64 imm', .int .i64 csr'], .int .i64 n] W fun e w' => e = .returned (.bool true) ∧ Grown W w' := by
  have hT2 := hT.grown (((Grown.refl W).alloc #[.int .i64 op, .int .i64 rd, .int .i64 rs1, .int .i64 rs2, .int .i64 imm, .int .i64 csr] 23).alloc #[.int .i64 op', .int .i64 rd', .int .i64 rs1', .int .i64 rs2', .int .i64 imm', .int .i64 csr'] 23)
  have hg := Grown.refl ((W.alloc (.cells #[.int .i64 op, .int .i64 rd, .int .i64 rs1, .int .i64 rs2, .int .i64 imm, .int .i64 csr] 23)).alloc (.cells #[.int .i64 op', .int .i64 rd', .int .i64 rs1', .int .i64 rs2', .int .i64 imm', .int .i64 csr'] 23))
  have hql := eql_insn
  go_enter Tryd.func3, Tryd.ntmps3
  go_wp2_with (first | (go_at_call 8; refine (known_from hT2 hg).mono ?_; rintro e w' ⟨rfl, hg⟩; obtain ⟨c0, c1, c2, c3, c4, c5, d0, d1, d2, d3, d4, d5⟩ := two_cells hg) | (go_at_call 9; refine (reads_from hT2 hg _ _ _ _ _ _).mono ?_; rintro e w' ⟨rfl, hg⟩; obtain ⟨c0, c1, c2, c3, c4, c5, d0, d1, d2, d3, d4, d5⟩ := two_cells hg) | (go_at_call 10; refine (rreads_from hg _ _ _ _ _ _).mono ?_; rintro e w' ⟨rfl, hg⟩; obtain ⟨c0, c1, c2, c3, c4, c5, d0, d1, d2, d3, d4, d5⟩ := two_cells hg))
  clear c0 c1 c2 c3 c4 c5 d0 d1 d2 d3 d4 d5
  have hq : GG ((W.alloc (.cells #[.int .i64 op, .int .i64 rd, .int .i64 rs1, .int .i64 rs2, .int .i64 imm, .int .i64 csr] 23)).alloc (.cells #[.int .i64 op', .int .i64 rd', .int .i64 rs1', .int .i64 rs2', .int .i64 imm', .int .i64 csr'] 23)) w'.drew := ⟨hg.drew⟩
  go_region_held3 (fun w' => GG ((W.alloc (.cells #[.int .i64 op, .int .i64 rd, .int .i64 rs1, .int .i64 rs2, .int .i64 imm, .int .i64 csr] 23)).alloc (.cells #[.int .i64 op', .int .i64 rd', .int .i64 rs1', .int .i64 rs2', .int .i64 imm', .int .i64 csr'] 23)) w' ∧ w'.cell? ⟨W.heap.size, 0, none⟩ = some (.int .i64 op) ∧ w'.cell? ⟨W.heap.size, 1, none⟩ = some (.int .i64 rd) ∧ w'.cell? ⟨W.heap.size, 2, none⟩ = some (.int .i64 rs1) ∧ w'.cell? ⟨W.heap.size, 3, none⟩ = some (.int .i64 rs2) ∧ w'.cell? ⟨W.heap.size, 4, none⟩ = some (.int .i64 imm) ∧ w'.cell? ⟨W.heap.size, 5, none⟩ = some (.int .i64 csr) ∧ w'.cell? ⟨W.heap.size + 1, 0, none⟩ = some (.int .i64 op') ∧ w'.cell? ⟨W.heap.size + 1, 1, none⟩ = some (.int .i64 rd') ∧ w'.cell? ⟨W.heap.size + 1, 2, none⟩ = some (.int .i64 rs1') ∧ w'.cell? ⟨W.heap.size + 1, 3, none⟩ = some (.int .i64 rs2') ∧ w'.cell? ⟨W.heap.size + 1, 4, none⟩ = some (.int .i64 imm') ∧ w'.cell? ⟨W.heap.size + 1, 5, none⟩ = some (.int .i64 csr')) (exact ⟨hq, two_cells hq.g⟩) (first | (go_at_call 11; refine (is_from hT2 (GG.g (by assumption)) _ _ _ _ _ _).mono ?_; rintro e w' ⟨rfl, hq⟩; replace hq : GG _ _ := ⟨hq⟩) | (go_at_call 12; refine (ris_from (GG.g (by assumption)) _ _ _ _ _ _).mono ?_; rintro e w' ⟨rfl, hq⟩; replace hq : GG _ _ := ⟨hq⟩) | (go_at_call 13; refine (same_from (GG.g (by assumption)) _ _ _ _ _ _ _ _ _ _ _ _).mono ?_; rintro e w' ⟨rfl, hq⟩; replace hq : GG _ _ := ⟨hq⟩) | (go_at_call 14; refine (writes_from hT2 (GG.g (by assumption)) _ _ _ _ _ _).mono ?_; rintro e w' ⟨rfl, hq⟩; replace hq : GG _ _ := ⟨hq⟩) | (go_at_call 15; refine (rwrites_from (GG.g (by assumption)) _ _ _ _ _ _).mono ?_; rintro e w' ⟨rfl, hq⟩; replace hq : GG _ _ := ⟨hq⟩) | (go_at_call 16; refine (name_from hT2 (GG.g (by assumption)) _).mono ?_; rintro e w' ⟨rfl, hq⟩; replace hq : GG _ _ := ⟨hq⟩) | (go_at_call 17; refine (rname_from (GG.g (by assumption)) _).mono ?_; rintro e w' ⟨rfl, hq⟩; replace hq : GG _ _ := ⟨hq⟩) | (go_at_call 18; refine (class_from hT2 (GG.g (by assumption)) _).mono ?_; rintro e w' ⟨rfl, hq⟩; replace hq : GG _ _ := ⟨hq⟩) | (go_at_call 19; refine (rclass_from (GG.g (by assumption)) _).mono ?_; rintro e w' ⟨rfl, hq⟩; replace hq : GG _ _ := ⟨hq⟩) | (go_at_call 20; refine (sizes_from hT2 (GG.g (by assumption)) _).mono ?_; rintro e w' ⟨rfl, hq⟩; replace hq : GG _ _ := ⟨hq⟩) | (go_at_call 21; refine (rsize_from (GG.g (by assumption)) _).mono ?_; rintro e w' ⟨rfl, hq⟩; replace hq : GG _ _ := ⟨hq⟩))
  all_goals
    go_wp2
    go_ret
    exact ⟨rfl, Grown.trans' (((Grown.refl _).alloc _ _).alloc _ _) (GG.g (by assumption))⟩
end Go.Proofs.YtgkcmfbkloeohaaDoor
