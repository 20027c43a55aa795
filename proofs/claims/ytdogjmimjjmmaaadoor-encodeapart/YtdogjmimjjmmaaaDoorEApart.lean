/-
  sallyportlaw4.EncodeApart, walked whole: true for every two instructions.
-/
import Derived.Test.YtdogjmimjjmmaaaDoorEncFrom
import Derived.Test.YtdogjmimjjmmaaaDoorFacts
import Derived.Test.YtdogjmimjjmmaaaDoorMade
namespace Go.Proofs.YtdogjmimjjmmaaaDoor
open Go.RowKit
theorem twelve {W w' : World} {op rd rs1 rs2 imm csr op' rd' rs1' rs2' imm' csr' : Int} (hg : More ((W.alloc (.cells #[.int .i64 op, .int .i64 rd, .int .i64 rs1, .int .i64 rs2, .int .i64 imm, .int .i64 csr] 23)).alloc (.cells #[.int .i64 op', .int .i64 rd', .int .i64 rs1', .int .i64 rs2', .int .i64 imm', .int .i64 csr'] 23)) w') : w'.cell? ⟨W.heap.size, 0, none⟩ = some (.int .i64 op) ∧ w'.cell? ⟨W.heap.size, 1, none⟩ = some (.int .i64 rd) ∧ w'.cell? ⟨W.heap.size, 2, none⟩ = some (.int .i64 rs1) ∧ w'.cell? ⟨W.heap.size, 3, none⟩ = some (.int .i64 rs2) ∧ w'.cell? ⟨W.heap.size, 4, none⟩ = some (.int .i64 imm) ∧ w'.cell? ⟨W.heap.size, 5, none⟩ = some (.int .i64 csr) ∧ w'.cell? ⟨W.heap.size + 1, 0, none⟩ = some (.int .i64 op') ∧ w'.cell? ⟨W.heap.size + 1, 1, none⟩ = some (.int .i64 rd') ∧ w'.cell? ⟨W.heap.size + 1, 2, none⟩ = some (.int .i64 rs1') ∧ w'.cell? ⟨W.heap.size + 1, 3, none⟩ = some (.int .i64 rs2') ∧ w'.cell? ⟨W.heap.size + 1, 4, none⟩ = some (.int .i64 imm') ∧ w'.cell? ⟨W.heap.size + 1, 5, none⟩ = some (.int .i64 csr') := by
  obtain ⟨c0, c1, c2, c3, c4, c5⟩ := ((Six.new W 23 op rd rs1 rs2 imm csr).more ((More.refl _).alloc #[.int .i64 op', .int .i64 rd', .int .i64 rs1', .int .i64 rs2', .int .i64 imm', .int .i64 csr'] 23)).more hg
  obtain ⟨d0, d1, d2, d3, d4, d5⟩ := (Six.new (W.alloc (.cells #[.int .i64 op, .int .i64 rd, .int .i64 rs1, .int .i64 rs2, .int .i64 imm, .int .i64 csr] 23)) 23 op' rd' rs1' rs2' imm' csr').more hg
  have e : (W.alloc (.cells #[.int .i64 op, .int .i64 rd, .int .i64 rs1, .int .i64 rs2, .int .i64 imm, .int .i64 csr] 23)).heap.size = W.heap.size + 1 := Array.size_push ..
  rw [e] at d0 d1 d2 d3 d4 d5
  exact ⟨c0, c1, c2, c3, c4, c5, d0, d1, d2, d3, d4, d5⟩
theorem enc_inj {op rd rs1 rs2 imm csr op' rd' rs1' rs2' imm' csr' : Int} (h : isB op rd rs1 rs2 imm csr = true) (h' : isB op' rd' rs1' rs2' imm' csr' = true) (e : eW op rd rs1 rs2 imm csr = eW op' rd' rs1' rs2' imm' csr') : op = op' ∧ rd = rd' ∧ rs1 = rs1' ∧ rs2 = rs2' ∧ imm = imm' ∧ csr = csr' := by
  rw [(e_yes h).1, (e_yes h').1] at e
  obtain ⟨k0, k1⟩ := cls_of_is h
  obtain ⟨k2, k3⟩ := cls_of_is h'
  obtain ⟨x0, x1, x2, x3, x4, x5, _⟩ := reads_made k0 k1 (made_any op rd rs1 rs2 imm csr _ h rfl)
  obtain ⟨y0, y1, y2, y3, y4, y5, _⟩ := reads_made k2 k3 (made_any op' rd' rs1' rs2' imm' csr' _ h' e)
  exact ⟨x0.symm.trans y0, x1.symm.trans y1, x2.symm.trans y2, x3.symm.trans y3, x4.symm.trans y4, x5.symm.trans y5⟩
theorem txt_bool {a b : List UInt8} : ((bs a).toList == (bs b).toList) = (a == b) := by
  unfold bs
  rw [ByteArray.toList_mk, ByteArray.toList_mk]
theorem same_no {op rd rs1 rs2 imm csr op' rd' rs1' rs2' imm' csr' : Int} (h : isB op rd rs1 rs2 imm csr = true) (h' : isB op' rd' rs1' rs2' imm' csr' = true) (e : sameB op rd rs1 rs2 imm csr op' rd' rs1' rs2' imm' csr' = false) : (eW op rd rs1 rs2 imm csr == eW op' rd' rs1' rs2' imm' csr') = false ∧ ((bs (tS op rd rs1 rs2 imm csr)).toList == (bs (tS op' rd' rs1' rs2' imm' csr')).toList) = false := by
  have ne : ¬ (op = op' ∧ rd = rd' ∧ rs1 = rs1' ∧ rs2 = rs2' ∧ imm = imm' ∧ csr = csr') := fun ⟨a, b, c, d, f, g⟩ => by
    subst a b c d f g
    unfold sameB at e
    simp at e
  constructor
  · apply Bool.eq_false_iff.2
    intro he
    exact ne (enc_inj h h' (eq_of_beq he))
  · rw [txt_bool]
    apply Bool.eq_false_iff.2
    intro he
    have := eq_of_beq he
    rw [(e_yes h).2.2, (e_yes h').2.2] at this
    exact ne (txt_inj h h' this)
theorem same_yes {op rd rs1 rs2 imm csr op' rd' rs1' rs2' imm' csr' : Int} (e : sameB op rd rs1 rs2 imm csr op' rd' rs1' rs2' imm' csr' = true) : (eW op rd rs1 rs2 imm csr == eW op' rd' rs1' rs2' imm' csr') = true ∧ ((bs (tS op rd rs1 rs2 imm csr)).toList == (bs (tS op' rd' rs1' rs2' imm' csr')).toList) = true := by
  unfold sameB at e
  have e' : op = op' ∧ rd = rd' ∧ rs1 = rs1' ∧ rs2 = rs2' ∧ imm = imm' ∧ csr = csr' := by simpa using e
  obtain ⟨a, b, c, d, f, g⟩ := e'
  subst a b c d f g
  simp
set_option maxRecDepth 100000 in
set_option maxHeartbeats 4000000 in
theorem apart_law (op rd rs1 rs2 imm csr op' rd' rs1' rs2' imm' csr' : Int) (W : World) (hT : Tab4 W) :
    Calls Tryd.prog 6 #[.agg #[.int .i64 op, .int .i64 rd, .int .i64 rs1, .int .i64 rs2, .int .i64 imm, .int .i64 csr], .agg #[.int .i64 op', .int .i64 rd', .int .i64 rs1', .int .i64 rs2', .int .i64 imm', .int .i64 csr']] W fun e w' => e = .returned (.bool true) ∧ More W w' := by
  have hql := eql_insn
  have hT1 := hT.grown (((More.refl W).alloc #[.int .i64 op, .int .i64 rd, .int .i64 rs1, .int .i64 rs2, .int .i64 imm, .int .i64 csr] 23).alloc #[.int .i64 op', .int .i64 rd', .int .i64 rs1', .int .i64 rs2', .int .i64 imm', .int .i64 csr'] 23)
  have hg := More.refl ((W.alloc (.cells #[.int .i64 op, .int .i64 rd, .int .i64 rs1, .int .i64 rs2, .int .i64 imm, .int .i64 csr] 23)).alloc (.cells #[.int .i64 op', .int .i64 rd', .int .i64 rs1', .int .i64 rs2', .int .i64 imm', .int .i64 csr'] 23))
  cases h : isB op rd rs1 rs2 imm csr
  · have hE := (e_no h).2.1
    have hS := (e_no h).2.2
    have hz : (bs (tS op rd rs1 rs2 imm csr)).toList.isEmpty = true := by rw [hS]; unfold bs; rw [ByteArray.toList_mk]; rfl
    clear hS
    go_enter Tryd.func6, Tryd.ntmps6
    go_wp2_with (first | (go_at_call 9; refine (known4_from hT1 hg).mono ?_; rintro e w' ⟨rfl, hg⟩; obtain ⟨c0, c1, c2, c3, c4, c5, d0, d1, d2, d3, d4, d5⟩ := twelve hg) | (go_at_call 10; refine (enc4_from hT1 hg _ _ _ _ _ _).mono ?_; rintro e w' ⟨rfl, hg⟩; obtain ⟨c0, c1, c2, c3, c4, c5, d0, d1, d2, d3, d4, d5⟩ := twelve hg) | (go_at_call 12; refine (text4_from hT1 hg _ _ _ _ _ _).mono ?_; rintro e w' ⟨rfl, hg⟩; obtain ⟨c0, c1, c2, c3, c4, c5, d0, d1, d2, d3, d4, d5⟩ := twelve hg))
    go_ret
    exact ⟨rfl, More.trans' (((More.refl _).alloc _ _).alloc _ _) hg⟩
  · have hE := (e_yes h).2.1
    cases h' : isB op' rd' rs1' rs2' imm' csr'
    · have hE' := (e_no h').2.1
      have hS : tS op rd rs1 rs2 imm csr ≠ [] := by rw [(e_yes h).2.2]; exact txt_some h
      have hz := eq_no hS
      clear hS
      go_enter Tryd.func6, Tryd.ntmps6
      go_wp2_with (first | (go_at_call 9; refine (known4_from hT1 hg).mono ?_; rintro e w' ⟨rfl, hg⟩; obtain ⟨c0, c1, c2, c3, c4, c5, d0, d1, d2, d3, d4, d5⟩ := twelve hg) | (go_at_call 10; refine (enc4_from hT1 hg _ _ _ _ _ _).mono ?_; rintro e w' ⟨rfl, hg⟩; obtain ⟨c0, c1, c2, c3, c4, c5, d0, d1, d2, d3, d4, d5⟩ := twelve hg) | (go_at_call 12; refine (text4_from hT1 hg _ _ _ _ _ _).mono ?_; rintro e w' ⟨rfl, hg⟩; obtain ⟨c0, c1, c2, c3, c4, c5, d0, d1, d2, d3, d4, d5⟩ := twelve hg))
      go_ret
      exact ⟨rfl, More.trans' (((More.refl _).alloc _ _).alloc _ _) hg⟩
    · have hE' := (e_yes h').2.1
      have hw : ((eW op rd rs1 rs2 imm csr == eW op' rd' rs1' rs2' imm' csr') = sameB op rd rs1 rs2 imm csr op' rd' rs1' rs2' imm' csr') ∧ (((bs (tS op rd rs1 rs2 imm csr)).toList == (bs (tS op' rd' rs1' rs2' imm' csr')).toList) = sameB op rd rs1 rs2 imm csr op' rd' rs1' rs2' imm' csr') := by
        cases e : sameB op rd rs1 rs2 imm csr op' rd' rs1' rs2' imm' csr'
        · exact same_no h h' e
        · exact same_yes e
      obtain ⟨hw1, hw2⟩ := hw
      go_enter Tryd.func6, Tryd.ntmps6
      go_wp2_with (first | (go_at_call 9; refine (known4_from hT1 hg).mono ?_; rintro e w' ⟨rfl, hg⟩; obtain ⟨c0, c1, c2, c3, c4, c5, d0, d1, d2, d3, d4, d5⟩ := twelve hg) | (go_at_call 10; refine (enc4_from hT1 hg _ _ _ _ _ _).mono ?_; rintro e w' ⟨rfl, hg⟩; obtain ⟨c0, c1, c2, c3, c4, c5, d0, d1, d2, d3, d4, d5⟩ := twelve hg) | (go_at_call 12; refine (text4_from hT1 hg _ _ _ _ _ _).mono ?_; rintro e w' ⟨rfl, hg⟩; obtain ⟨c0, c1, c2, c3, c4, c5, d0, d1, d2, d3, d4, d5⟩ := twelve hg))
      clear c0 c1 c2 c3 c4 c5 d0 d1 d2 d3 d4 d5
      have hq : MM ((W.alloc (.cells #[.int .i64 op, .int .i64 rd, .int .i64 rs1, .int .i64 rs2, .int .i64 imm, .int .i64 csr] 23)).alloc (.cells #[.int .i64 op', .int .i64 rd', .int .i64 rs1', .int .i64 rs2', .int .i64 imm', .int .i64 csr'] 23)) w'.drew := ⟨hg.drew⟩
      go_region_held3 (fun w' => MM ((W.alloc (.cells #[.int .i64 op, .int .i64 rd, .int .i64 rs1, .int .i64 rs2, .int .i64 imm, .int .i64 csr] 23)).alloc (.cells #[.int .i64 op', .int .i64 rd', .int .i64 rs1', .int .i64 rs2', .int .i64 imm', .int .i64 csr'] 23)) w' ∧ w'.cell? ⟨W.heap.size, 0, none⟩ = some (.int .i64 op) ∧ w'.cell? ⟨W.heap.size, 1, none⟩ = some (.int .i64 rd) ∧ w'.cell? ⟨W.heap.size, 2, none⟩ = some (.int .i64 rs1) ∧ w'.cell? ⟨W.heap.size, 3, none⟩ = some (.int .i64 rs2) ∧ w'.cell? ⟨W.heap.size, 4, none⟩ = some (.int .i64 imm) ∧ w'.cell? ⟨W.heap.size, 5, none⟩ = some (.int .i64 csr) ∧ w'.cell? ⟨W.heap.size + 1, 0, none⟩ = some (.int .i64 op') ∧ w'.cell? ⟨W.heap.size + 1, 1, none⟩ = some (.int .i64 rd') ∧ w'.cell? ⟨W.heap.size + 1, 2, none⟩ = some (.int .i64 rs1') ∧ w'.cell? ⟨W.heap.size + 1, 3, none⟩ = some (.int .i64 rs2') ∧ w'.cell? ⟨W.heap.size + 1, 4, none⟩ = some (.int .i64 imm') ∧ w'.cell? ⟨W.heap.size + 1, 5, none⟩ = some (.int .i64 csr')) (exact ⟨hq, twelve hq.g⟩) (first | (go_at_call 12; refine (text4_from hT1 (MM.g (by assumption)) _ _ _ _ _ _).mono ?_; rintro e w' ⟨rfl, hq⟩; replace hq : MM _ _ := ⟨hq⟩))
      go_wp2
      go_ret
      exact ⟨rfl, More.trans' (((More.refl _).alloc _ _).alloc _ _) hq.g⟩
end Go.Proofs.YtdogjmimjjmmaaaDoor
