/-
  What the document's Decode and package decode's answer of every word, in the same terms.
-/
import Derived.Test.YtbcmklojfmenjaaDoorDec
import Derived.Test.YtbcmklojfmenjaaDoorIsIn
import Derived.Test.YtbcmklojfmenjaaDoorSame
namespace Go.Proofs.YtbcmklojfmenjaaDoor
open Go.RowKit
/-- The first operation that the word has, or 0. -/
def hitN (v : Int) : Nat := (((List.range 70).find? fun j : Nat => decide (1 ≤ j) && hitB j v).getD 0)
def okB (v : Int) : Bool := !(hitN v == 0)
def xOp (v : Int) : Int := hitN v
def xRd (v : Int) : Int := cond (okB v) (gRdI (hitN v) v) 0
def xRs1 (v : Int) : Int := cond (okB v) (gRs1I (hitN v) v) 0
def xRs2 (v : Int) : Int := cond (okB v) (gRs2I (hitN v) v) 0
def xImm (v : Int) : Int := cond (okB v) (gImmI (hitN v) v) 0
def xCsr (v : Int) : Int := cond (okB v) (gCsrI (hitN v) v) 0
def xE (v : Int) : Int := cond (okB v) 0 40
theorem hit_ways3 (v : Int) : (okB v = true ∧ 1 ≤ hitN v ∧ hitN v < 70 ∧ hitB (hitN v) v = true ∧ ∀ j : Nat, 1 ≤ j → j < hitN v → hitB j v = false) ∨ (okB v = false ∧ hitN v = 0 ∧ ∀ j : Nat, 1 ≤ j → j < 70 → hitB j v = false) := by
  cases h : (List.range 70).find? fun j : Nat => decide (1 ≤ j) && hitB j v with
  | none =>
    have e : hitN v = 0 := by unfold hitN; rw [h]; rfl
    refine .inr ⟨by unfold okB; rw [e]; rfl, e, fun j h1 h2 => ?_⟩
    have := List.find?_eq_none.1 h j (List.mem_range.2 h2)
    simpa [h1] using this
  | some n =>
    have e : hitN v = n := by unfold hitN; rw [h]; rfl
    obtain ⟨hp, xs, ys, hs, hf⟩ := List.find?_eq_some_iff_append.1 h
    simp only [Bool.and_eq_true, decide_eq_true_eq] at hp
    have hn70 : n < 70 := List.mem_range.1 (List.mem_of_find?_eq_some h)
    refine .inl ⟨by unfold okB; rw [e]; simp; omega, by omega, by omega, by rw [e]; exact hp.2, fun j h1 h2 => ?_⟩
    have hlen : xs.length = n := by
      have hl : (List.range 70)[xs.length]? = some n := by rw [hs]; simp
      have hlt : xs.length < 70 := by
        have := (List.getElem?_eq_some_iff.1 hl).1
        simpa using this
      rw [List.getElem?_range hlt] at hl
      exact Option.some.inj hl
    have hj : j ∈ xs := by
      have hjn : j < xs.length := by omega
      have hg : (List.range 70)[j]? = some j := List.getElem?_range (by omega)
      rw [hs, List.getElem?_append_left hjn] at hg
      exact List.mem_of_getElem? hg
    have := hf j hj
    simpa [h1] using this
theorem decode_any (v : Int) (hv0 : 0 ≤ v) (hv1 : v < 4294967296) (w : World) (hT : Tab w) :
    Calls Tryd.prog 9 #[.int .u32 v] w fun e w' => e = .returned (.tuple #[.agg #[.int .i64 (xOp v), .int .i64 (xRd v), .int .i64 (xRs1 v), .int .i64 (xRs2 v), .int .i64 (xImm v), .int .i64 (xCsr v)], .int .i64 (xE v)]) ∧ Grown w w' := by
  unfold xE xRd xRs1 xRs2 xImm xCsr xOp
  rcases hit_ways3 v with ⟨ho, h0, h1, hy, hn⟩ | ⟨ho, h0, hn⟩
  · rw [ho]
    exact decode_hit v hv0 hv1 (hitN v) h0 h1 hn hy w hT
  · rw [ho, h0]
    exact decode_none v hv0 hv1 hn w hT
theorem rdecode_any (v : Int) (hv0 : 0 ≤ v) (hv1 : v < 4294967296) (w : World) :
    Calls Tryd.prog 10 #[.int .u32 v] w fun e w' => e = .returned (.tuple #[.agg #[.int .i64 (xOp v), .int .i64 (xRd v), .int .i64 (xRs1 v), .int .i64 (xRs2 v), .int .i64 (xImm v), .int .i64 (xCsr v)], .bool (okB v)]) ∧ Grown w w' := by
  unfold xRd xRs1 xRs2 xImm xCsr xOp
  rcases hit_ways3 v with ⟨ho, h0, h1, hy, hn⟩ | ⟨ho, h0, hn⟩
  · rw [ho]
    exact rdecode_hit v hv0 hv1 (hitN v) h0 h1 hn hy w
  · rw [ho, h0]
    exact rdecode_none v hv0 hv1 hn w
theorem decode_from {W : World} (hT : Tab W) {w : World} (hg : Grown W w) (v : Int) (hv0 : 0 ≤ v) (hv1 : v < 4294967296) :
    Calls Tryd.prog 9 #[.int .u32 v] w fun e w' => e = .returned (.tuple #[.agg #[.int .i64 (xOp v), .int .i64 (xRd v), .int .i64 (xRs1 v), .int .i64 (xRs2 v), .int .i64 (xImm v), .int .i64 (xCsr v)], .int .i64 (xE v)]) ∧ Grown W w' :=
  (decode_any v hv0 hv1 w (hT.grown hg)).mono fun _ _ h => ⟨h.1, Grown.trans' hg h.2⟩
theorem rdecode_from {W w : World} (hg : Grown W w) (v : Int) (hv0 : 0 ≤ v) (hv1 : v < 4294967296) :
    Calls Tryd.prog 10 #[.int .u32 v] w fun e w' => e = .returned (.tuple #[.agg #[.int .i64 (xOp v), .int .i64 (xRd v), .int .i64 (xRs1 v), .int .i64 (xRs2 v), .int .i64 (xImm v), .int .i64 (xCsr v)], .bool (okB v)]) ∧ Grown W w' :=
  (rdecode_any v hv0 hv1 w).mono fun _ _ h => ⟨h.1, Grown.trans' hg h.2⟩
theorem format_from {W : World} (hT : Tab W) {w : World} (hg : Grown W w) (op : Int) :
    Calls Tryd.prog 12 #[.int .i64 op] w fun e w' => e = .returned (.int .u8 (fmtI op)) ∧ Grown W w' :=
  (format_any op w (hT.grown hg).i).mono fun _ _ h => ⟨h.1, Grown.trans' hg h.2⟩
theorem class_from {W : World} (hT : Tab W) {w : World} (hg : Grown W w) (op : Int) :
    Calls Tryd.prog 15 #[.int .i64 op] w fun e w' => e = .returned (.int .i64 (clsI op)) ∧ Grown W w' :=
  (class_in op w (hT.grown hg).i).mono fun _ _ h => ⟨h.1, Grown.trans' hg h.2⟩
theorem is_from {W : World} (hT : Tab W) {w : World} (hg : Grown W w) (op rd rs1 rs2 imm csr : Int) :
    Calls Tryd.prog 16 #[.agg #[.int .i64 op, .int .i64 rd, .int .i64 rs1, .int .i64 rs2, .int .i64 imm, .int .i64 csr]] w fun e w' => e = .returned (.bool (isB op rd rs1 rs2 imm csr)) ∧ Grown W w' :=
  (is_in op rd rs1 rs2 imm csr w (hT.grown hg).i).mono fun _ _ h => ⟨h.1, Grown.trans' hg h.2⟩
set_option maxHeartbeats 2000000 in
theorem fmt_law (op : Int) (w : World) :
    Calls Tryd.prog 13 #[.int .i64 op] w fun e w' => e = .returned (.int .u8 (fmtI op)) ∧ w' = w := by
  have H : Hid (fmtI op = if clsI op = 0 then 45 else if op ≤ 2 then 85 else if op = 3 then 74 else if clsI op = 2 then 66 else if clsI op = 4 then 83 else if clsI op = 6 ∨ clsI op = 11 ∨ clsI op = 12 then 82 else 73) := rfl
  go_enter Tryd.func13, Tryd.ntmps13
  go_wp2_with (go_at_call 23; refine (rclass_any _ _).mono ?_; rintro e w' ⟨rfl, rfl⟩)
  all_goals
    go_ret
    refine ⟨ret_int ?_, rfl⟩
    rw [show fmtI op = _ from H]
    simp only [beq_iff_eq, beq_eq_false_iff_ne, ne_eq] at *
    repeat (first | rw [if_pos (by omega)] | rw [if_neg (by omega)])
end Go.Proofs.YtbcmklojfmenjaaDoor
