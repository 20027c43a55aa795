/-
  The parts of an instruction's text: package encode's tell, walked for each choice of parts.
-/
import Derived.Test.YtdogjmimjjmmaaaDoorEncStr
namespace Go.Proofs.YtdogjmimjjmmaaaDoor
open Go.RowKit
def inI (n : Int) : Prop := -9223372036854775808 ≤ n ∧ n ≤ 9223372036854775807
set_option maxRecDepth 100000 in
set_option maxHeartbeats 2000000 in
theorem tell_17 (op rd rs1 rs2 imm csr : Int) (i1 : inI rd) (_i2 : inI csr) (_i3 : inI rs1) (_i4 : inI rs2) (i5 : inI imm) (W : World) (hT : Tab4 W) :
    Calls Tryd.prog 26 #[.agg #[.int .i64 op, .int .i64 rd, .int .i64 rs1, .int .i64 rs2, .int .i64 imm, .int .i64 csr], .int .i64 17] W fun e w' => ∃ v, e = .returned v ∧ w'.ownsRow (W.heap.size + 1) 9 1 v 2 [Value.string (bs (120 :: dgI rd)), Value.string (bs (dgI imm))] ∧ More W w' := by
  obtain ⟨i0, hi, hz0, hz1, hz2⟩ := info_parts info_str
  have hT1 := hT.grown ((More.refl W).alloc #[.int .i64 op, .int .i64 rd, .int .i64 rs1, .int .i64 rs2, .int .i64 imm, .int .i64 csr] 23)
  have hg := More.refl (W.alloc (.cells #[.int .i64 op, .int .i64 rd, .int .i64 rs1, .int .i64 rs2, .int .i64 imm, .int .i64 csr] 23))
  have hown := World.ownsRow_nil (W.alloc (.cells #[.int .i64 op, .int .i64 rd, .int .i64 rs1, .int .i64 rs2, .int .i64 imm, .int .i64 csr] 23)) (W.heap.size + 1) 9 1
  have hsz : (W.alloc (.cells #[.int .i64 op, .int .i64 rd, .int .i64 rs1, .int .i64 rs2, .int .i64 imm, .int .i64 csr] 23)).heap.size = W.heap.size + 1 := Array.size_push ..
  have b1 : bits .and .i64 17 1 = 1 := by decide
  have b2 : bits .and .i64 17 2 = 0 := by decide
  have b4 : bits .and .i64 17 4 = 0 := by decide
  have b8 : bits .and .i64 17 8 = 0 := by decide
  have b16 : bits .and .i64 17 16 = 16 := by decide
  have k0 := register_any rd i1.1 i1.2
  generalize bs (120 :: dgI rd) = X0 at *
  have k1 := eformat_any imm i5.1 i5.2
  generalize bs (dgI imm) = X1 at *
  go_enter Tryd.func26, Tryd.ntmps26
  go_wp2_with fail
  refine (k0 _ (hT1.grown hg)).mono ?_
  rintro e w0a ⟨rfl, hm⟩
  replace hown := row_more hown hm
  replace hg := More.trans' hg hm
  clear hm
  obtain ⟨c0, c1, c2, c3, c4, c5⟩ := six_m hg
  have hb0 : W.heap.size + 1 ≤ w0a.heap.size := by have := hg.2; omega
  go_wp2_with (at_builtin; refine wpList_append_lies _ rfl _ _ 52 rfl (W.heap.size + 1) 9 i0 (.string ByteArray.empty) 1 16 Tryd.underlying52 hi hz0 hz1 hz2 rfl (by decide) _ _ _ rfl (hown.alloc _) ⟨w0a.heap.size, 0, none⟩ 1 1 [.string X0] rfl rfl (cell_one_new _ _ _) (fun x hx => by simp at hx; subst hx; rfl) (by decide) (by unfold maxLen; omega) (by omega) (by simp; omega) (w0a.heap.size + 1) (by simp) ?_; intro g0 cap0 w0 hown0 hgrow0 hat0 hlt0; have hr0 := fun q hq => (hown.lt q hq).1; replace hg := (hg.alloc _ _).grownBy hgrow0 (fun q hq => by rw [hsz]; exact hr0 q hq); clear c0 c1 c2 c3 c4 c5; obtain ⟨c0, c1, c2, c3, c4, c5⟩ := six_m hg)
  replace hown := hown0
  clear hown0 hgrow0 hat0 hlt0 hr0 hb0
  refine (k1 _ (hT1.grown hg)).mono ?_
  rintro e w1a ⟨rfl, hm⟩
  replace hown := row_more hown hm
  replace hg := More.trans' hg hm
  clear hm
  obtain ⟨c0, c1, c2, c3, c4, c5⟩ := six_m hg
  have hb1 : W.heap.size + 1 ≤ w1a.heap.size := by have := hg.2; omega
  go_wp2_with (at_builtin; refine wpList_append_lies _ rfl _ _ 52 rfl (W.heap.size + 1) 9 i0 (.string ByteArray.empty) 1 16 Tryd.underlying52 hi hz0 hz1 hz2 rfl (by decide) _ _ _ rfl (hown.alloc _) ⟨w1a.heap.size, 0, none⟩ 1 1 [.string X1] rfl rfl (cell_one_new _ _ _) (fun x hx => by simp at hx; subst hx; rfl) (by decide) (by unfold maxLen; omega) (by omega) (by simp; omega) (w1a.heap.size + 1) (by simp) ?_; intro g1 cap1 w1 hown1 hgrow1 hat1 hlt1; have hr1 := fun q hq => (hown.lt q hq).1; replace hg := (hg.alloc _ _).grownBy hgrow1 (fun q hq => by rw [hsz]; exact hr1 q hq); clear c0 c1 c2 c3 c4 c5; obtain ⟨c0, c1, c2, c3, c4, c5⟩ := six_m hg)
  replace hown := hown1
  clear hown1 hgrow1 hat1 hlt1 hr1 hb1
  go_ret
  exact ⟨_, rfl, hown, More.trans' ((More.refl _).alloc _ _) hg⟩
set_option maxRecDepth 100000 in
set_option maxHeartbeats 2000000 in
theorem tell_21 (op rd rs1 rs2 imm csr : Int) (i1 : inI rd) (_i2 : inI csr) (i3 : inI rs1) (_i4 : inI rs2) (i5 : inI imm) (W : World) (hT : Tab4 W) :
    Calls Tryd.prog 26 #[.agg #[.int .i64 op, .int .i64 rd, .int .i64 rs1, .int .i64 rs2, .int .i64 imm, .int .i64 csr], .int .i64 21] W fun e w' => ∃ v, e = .returned v ∧ w'.ownsRow (W.heap.size + 1) 9 1 v 3 [Value.string (bs (120 :: dgI rd)), Value.string (bs (120 :: dgI rs1)), Value.string (bs (dgI imm))] ∧ More W w' := by
  obtain ⟨i0, hi, hz0, hz1, hz2⟩ := info_parts info_str
  have hT1 := hT.grown ((More.refl W).alloc #[.int .i64 op, .int .i64 rd, .int .i64 rs1, .int .i64 rs2, .int .i64 imm, .int .i64 csr] 23)
  have hg := More.refl (W.alloc (.cells #[.int .i64 op, .int .i64 rd, .int .i64 rs1, .int .i64 rs2, .int .i64 imm, .int .i64 csr] 23))
  have hown := World.ownsRow_nil (W.alloc (.cells #[.int .i64 op, .int .i64 rd, .int .i64 rs1, .int .i64 rs2, .int .i64 imm, .int .i64 csr] 23)) (W.heap.size + 1) 9 1
  have hsz : (W.alloc (.cells #[.int .i64 op, .int .i64 rd, .int .i64 rs1, .int .i64 rs2, .int .i64 imm, .int .i64 csr] 23)).heap.size = W.heap.size + 1 := Array.size_push ..
  have b1 : bits .and .i64 21 1 = 1 := by decide
  have b2 : bits .and .i64 21 2 = 0 := by decide
  have b4 : bits .and .i64 21 4 = 4 := by decide
  have b8 : bits .and .i64 21 8 = 0 := by decide
  have b16 : bits .and .i64 21 16 = 16 := by decide
  have k0 := register_any rd i1.1 i1.2
  generalize bs (120 :: dgI rd) = X0 at *
  have k1 := register_any rs1 i3.1 i3.2
  generalize bs (120 :: dgI rs1) = X1 at *
  have k2 := eformat_any imm i5.1 i5.2
  generalize bs (dgI imm) = X2 at *
  go_enter Tryd.func26, Tryd.ntmps26
  go_wp2_with fail
  refine (k0 _ (hT1.grown hg)).mono ?_
  rintro e w0a ⟨rfl, hm⟩
  replace hown := row_more hown hm
  replace hg := More.trans' hg hm
  clear hm
  obtain ⟨c0, c1, c2, c3, c4, c5⟩ := six_m hg
  have hb0 : W.heap.size + 1 ≤ w0a.heap.size := by have := hg.2; omega
  go_wp2_with (at_builtin; refine wpList_append_lies _ rfl _ _ 52 rfl (W.heap.size + 1) 9 i0 (.string ByteArray.empty) 1 16 Tryd.underlying52 hi hz0 hz1 hz2 rfl (by decide) _ _ _ rfl (hown.alloc _) ⟨w0a.heap.size, 0, none⟩ 1 1 [.string X0] rfl rfl (cell_one_new _ _ _) (fun x hx => by simp at hx; subst hx; rfl) (by decide) (by unfold maxLen; omega) (by omega) (by simp; omega) (w0a.heap.size + 1) (by simp) ?_; intro g0 cap0 w0 hown0 hgrow0 hat0 hlt0; have hr0 := fun q hq => (hown.lt q hq).1; replace hg := (hg.alloc _ _).grownBy hgrow0 (fun q hq => by rw [hsz]; exact hr0 q hq); clear c0 c1 c2 c3 c4 c5; obtain ⟨c0, c1, c2, c3, c4, c5⟩ := six_m hg)
  replace hown := hown0
  clear hown0 hgrow0 hat0 hlt0 hr0 hb0
  refine (k1 _ (hT1.grown hg)).mono ?_
  rintro e w1a ⟨rfl, hm⟩
  replace hown := row_more hown hm
  replace hg := More.trans' hg hm
  clear hm
  obtain ⟨c0, c1, c2, c3, c4, c5⟩ := six_m hg
  have hb1 : W.heap.size + 1 ≤ w1a.heap.size := by have := hg.2; omega
  go_wp2_with (at_builtin; refine wpList_append_lies _ rfl _ _ 52 rfl (W.heap.size + 1) 9 i0 (.string ByteArray.empty) 1 16 Tryd.underlying52 hi hz0 hz1 hz2 rfl (by decide) _ _ _ rfl (hown.alloc _) ⟨w1a.heap.size, 0, none⟩ 1 1 [.string X1] rfl rfl (cell_one_new _ _ _) (fun x hx => by simp at hx; subst hx; rfl) (by decide) (by unfold maxLen; omega) (by omega) (by simp; omega) (w1a.heap.size + 1) (by simp) ?_; intro g1 cap1 w1 hown1 hgrow1 hat1 hlt1; have hr1 := fun q hq => (hown.lt q hq).1; replace hg := (hg.alloc _ _).grownBy hgrow1 (fun q hq => by rw [hsz]; exact hr1 q hq); clear c0 c1 c2 c3 c4 c5; obtain ⟨c0, c1, c2, c3, c4, c5⟩ := six_m hg)
  replace hown := hown1
  clear hown1 hgrow1 hat1 hlt1 hr1 hb1
  refine (k2 _ (hT1.grown hg)).mono ?_
  rintro e w2a ⟨rfl, hm⟩
  replace hown := row_more hown hm
  replace hg := More.trans' hg hm
  clear hm
  obtain ⟨c0, c1, c2, c3, c4, c5⟩ := six_m hg
  have hb2 : W.heap.size + 1 ≤ w2a.heap.size := by have := hg.2; omega
  go_wp2_with (at_builtin; refine wpList_append_lies _ rfl _ _ 52 rfl (W.heap.size + 1) 9 i0 (.string ByteArray.empty) 1 16 Tryd.underlying52 hi hz0 hz1 hz2 rfl (by decide) _ _ _ rfl (hown.alloc _) ⟨w2a.heap.size, 0, none⟩ 1 1 [.string X2] rfl rfl (cell_one_new _ _ _) (fun x hx => by simp at hx; subst hx; rfl) (by decide) (by unfold maxLen; omega) (by omega) (by simp; omega) (w2a.heap.size + 1) (by simp) ?_; intro g2 cap2 w2 hown2 hgrow2 hat2 hlt2; have hr2 := fun q hq => (hown.lt q hq).1; replace hg := (hg.alloc _ _).grownBy hgrow2 (fun q hq => by rw [hsz]; exact hr2 q hq); clear c0 c1 c2 c3 c4 c5; obtain ⟨c0, c1, c2, c3, c4, c5⟩ := six_m hg)
  replace hown := hown2
  clear hown2 hgrow2 hat2 hlt2 hr2 hb2
  go_ret
  exact ⟨_, rfl, hown, More.trans' ((More.refl _).alloc _ _) hg⟩
set_option maxRecDepth 100000 in
set_option maxHeartbeats 2000000 in
theorem tell_28 (op rd rs1 rs2 imm csr : Int) (_i1 : inI rd) (_i2 : inI csr) (i3 : inI rs1) (i4 : inI rs2) (i5 : inI imm) (W : World) (hT : Tab4 W) :
    Calls Tryd.prog 26 #[.agg #[.int .i64 op, .int .i64 rd, .int .i64 rs1, .int .i64 rs2, .int .i64 imm, .int .i64 csr], .int .i64 28] W fun e w' => ∃ v, e = .returned v ∧ w'.ownsRow (W.heap.size + 1) 9 1 v 3 [Value.string (bs (120 :: dgI rs1)), Value.string (bs (120 :: dgI rs2)), Value.string (bs (dgI imm))] ∧ More W w' := by
  obtain ⟨i0, hi, hz0, hz1, hz2⟩ := info_parts info_str
  have hT1 := hT.grown ((More.refl W).alloc #[.int .i64 op, .int .i64 rd, .int .i64 rs1, .int .i64 rs2, .int .i64 imm, .int .i64 csr] 23)
  have hg := More.refl (W.alloc (.cells #[.int .i64 op, .int .i64 rd, .int .i64 rs1, .int .i64 rs2, .int .i64 imm, .int .i64 csr] 23))
  have hown := World.ownsRow_nil (W.alloc (.cells #[.int .i64 op, .int .i64 rd, .int .i64 rs1, .int .i64 rs2, .int .i64 imm, .int .i64 csr] 23)) (W.heap.size + 1) 9 1
  have hsz : (W.alloc (.cells #[.int .i64 op, .int .i64 rd, .int .i64 rs1, .int .i64 rs2, .int .i64 imm, .int .i64 csr] 23)).heap.size = W.heap.size + 1 := Array.size_push ..
  have b1 : bits .and .i64 28 1 = 0 := by decide
  have b2 : bits .and .i64 28 2 = 0 := by decide
  have b4 : bits .and .i64 28 4 = 4 := by decide
  have b8 : bits .and .i64 28 8 = 8 := by decide
  have b16 : bits .and .i64 28 16 = 16 := by decide
  have k0 := register_any rs1 i3.1 i3.2
  generalize bs (120 :: dgI rs1) = X0 at *
  have k1 := register_any rs2 i4.1 i4.2
  generalize bs (120 :: dgI rs2) = X1 at *
  have k2 := eformat_any imm i5.1 i5.2
  generalize bs (dgI imm) = X2 at *
  go_enter Tryd.func26, Tryd.ntmps26
  go_wp2_with fail
  refine (k0 _ (hT1.grown hg)).mono ?_
  rintro e w0a ⟨rfl, hm⟩
  replace hown := row_more hown hm
  replace hg := More.trans' hg hm
  clear hm
  obtain ⟨c0, c1, c2, c3, c4, c5⟩ := six_m hg
  have hb0 : W.heap.size + 1 ≤ w0a.heap.size := by have := hg.2; omega
  go_wp2_with (at_builtin; refine wpList_append_lies _ rfl _ _ 52 rfl (W.heap.size + 1) 9 i0 (.string ByteArray.empty) 1 16 Tryd.underlying52 hi hz0 hz1 hz2 rfl (by decide) _ _ _ rfl (hown.alloc _) ⟨w0a.heap.size, 0, none⟩ 1 1 [.string X0] rfl rfl (cell_one_new _ _ _) (fun x hx => by simp at hx; subst hx; rfl) (by decide) (by unfold maxLen; omega) (by omega) (by simp; omega) (w0a.heap.size + 1) (by simp) ?_; intro g0 cap0 w0 hown0 hgrow0 hat0 hlt0; have hr0 := fun q hq => (hown.lt q hq).1; replace hg := (hg.alloc _ _).grownBy hgrow0 (fun q hq => by rw [hsz]; exact hr0 q hq); clear c0 c1 c2 c3 c4 c5; obtain ⟨c0, c1, c2, c3, c4, c5⟩ := six_m hg)
  replace hown := hown0
  clear hown0 hgrow0 hat0 hlt0 hr0 hb0
  refine (k1 _ (hT1.grown hg)).mono ?_
  rintro e w1a ⟨rfl, hm⟩
  replace hown := row_more hown hm
  replace hg := More.trans' hg hm
  clear hm
  obtain ⟨c0, c1, c2, c3, c4, c5⟩ := six_m hg
  have hb1 : W.heap.size + 1 ≤ w1a.heap.size := by have := hg.2; omega
  go_wp2_with (at_builtin; refine wpList_append_lies _ rfl _ _ 52 rfl (W.heap.size + 1) 9 i0 (.string ByteArray.empty) 1 16 Tryd.underlying52 hi hz0 hz1 hz2 rfl (by decide) _ _ _ rfl (hown.alloc _) ⟨w1a.heap.size, 0, none⟩ 1 1 [.string X1] rfl rfl (cell_one_new _ _ _) (fun x hx => by simp at hx; subst hx; rfl) (by decide) (by unfold maxLen; omega) (by omega) (by simp; omega) (w1a.heap.size + 1) (by simp) ?_; intro g1 cap1 w1 hown1 hgrow1 hat1 hlt1; have hr1 := fun q hq => (hown.lt q hq).1; replace hg := (hg.alloc _ _).grownBy hgrow1 (fun q hq => by rw [hsz]; exact hr1 q hq); clear c0 c1 c2 c3 c4 c5; obtain ⟨c0, c1, c2, c3, c4, c5⟩ := six_m hg)
  replace hown := hown1
  clear hown1 hgrow1 hat1 hlt1 hr1 hb1
  refine (k2 _ (hT1.grown hg)).mono ?_
  rintro e w2a ⟨rfl, hm⟩
  replace hown := row_more hown hm
  replace hg := More.trans' hg hm
  clear hm
  obtain ⟨c0, c1, c2, c3, c4, c5⟩ := six_m hg
  have hb2 : W.heap.size + 1 ≤ w2a.heap.size := by have := hg.2; omega
  go_wp2_with (at_builtin; refine wpList_append_lies _ rfl _ _ 52 rfl (W.heap.size + 1) 9 i0 (.string ByteArray.empty) 1 16 Tryd.underlying52 hi hz0 hz1 hz2 rfl (by decide) _ _ _ rfl (hown.alloc _) ⟨w2a.heap.size, 0, none⟩ 1 1 [.string X2] rfl rfl (cell_one_new _ _ _) (fun x hx => by simp at hx; subst hx; rfl) (by decide) (by unfold maxLen; omega) (by omega) (by simp; omega) (w2a.heap.size + 1) (by simp) ?_; intro g2 cap2 w2 hown2 hgrow2 hat2 hlt2; have hr2 := fun q hq => (hown.lt q hq).1; replace hg := (hg.alloc _ _).grownBy hgrow2 (fun q hq => by rw [hsz]; exact hr2 q hq); clear c0 c1 c2 c3 c4 c5; obtain ⟨c0, c1, c2, c3, c4, c5⟩ := six_m hg)
  replace hown := hown2
  clear hown2 hgrow2 hat2 hlt2 hr2 hb2
  go_ret
  exact ⟨_, rfl, hown, More.trans' ((More.refl _).alloc _ _) hg⟩
set_option maxRecDepth 100000 in
set_option maxHeartbeats 2000000 in
theorem tell_13 (op rd rs1 rs2 imm csr : Int) (i1 : inI rd) (_i2 : inI csr) (i3 : inI rs1) (i4 : inI rs2) (_i5 : inI imm) (W : World) (hT : Tab4 W) :
    Calls Tryd.prog 26 #[.agg #[.int .i64 op, .int .i64 rd, .int .i64 rs1, .int .i64 rs2, .int .i64 imm, .int .i64 csr], .int .i64 13] W fun e w' => ∃ v, e = .returned v ∧ w'.ownsRow (W.heap.size + 1) 9 1 v 3 [Value.string (bs (120 :: dgI rd)), Value.string (bs (120 :: dgI rs1)), Value.string (bs (120 :: dgI rs2))] ∧ More W w' := by
  obtain ⟨i0, hi, hz0, hz1, hz2⟩ := info_parts info_str
  have hT1 := hT.grown ((More.refl W).alloc #[.int .i64 op, .int .i64 rd, .int .i64 rs1, .int .i64 rs2, .int .i64 imm, .int .i64 csr] 23)
  have hg := More.refl (W.alloc (.cells #[.int .i64 op, .int .i64 rd, .int .i64 rs1, .int .i64 rs2, .int .i64 imm, .int .i64 csr] 23))
  have hown := World.ownsRow_nil (W.alloc (.cells #[.int .i64 op, .int .i64 rd, .int .i64 rs1, .int .i64 rs2, .int .i64 imm, .int .i64 csr] 23)) (W.heap.size + 1) 9 1
  have hsz : (W.alloc (.cells #[.int .i64 op, .int .i64 rd, .int .i64 rs1, .int .i64 rs2, .int .i64 imm, .int .i64 csr] 23)).heap.size = W.heap.size + 1 := Array.size_push ..
  have b1 : bits .and .i64 13 1 = 1 := by decide
  have b2 : bits .and .i64 13 2 = 0 := by decide
  have b4 : bits .and .i64 13 4 = 4 := by decide
  have b8 : bits .and .i64 13 8 = 8 := by decide
  have b16 : bits .and .i64 13 16 = 0 := by decide
  have k0 := register_any rd i1.1 i1.2
  generalize bs (120 :: dgI rd) = X0 at *
  have k1 := register_any rs1 i3.1 i3.2
  generalize bs (120 :: dgI rs1) = X1 at *
  have k2 := register_any rs2 i4.1 i4.2
  generalize bs (120 :: dgI rs2) = X2 at *
  go_enter Tryd.func26, Tryd.ntmps26
  go_wp2_with fail
  refine (k0 _ (hT1.grown hg)).mono ?_
  rintro e w0a ⟨rfl, hm⟩
  replace hown := row_more hown hm
  replace hg := More.trans' hg hm
  clear hm
  obtain ⟨c0, c1, c2, c3, c4, c5⟩ := six_m hg
  have hb0 : W.heap.size + 1 ≤ w0a.heap.size := by have := hg.2; omega
  go_wp2_with (at_builtin; refine wpList_append_lies _ rfl _ _ 52 rfl (W.heap.size + 1) 9 i0 (.string ByteArray.empty) 1 16 Tryd.underlying52 hi hz0 hz1 hz2 rfl (by decide) _ _ _ rfl (hown.alloc _) ⟨w0a.heap.size, 0, none⟩ 1 1 [.string X0] rfl rfl (cell_one_new _ _ _) (fun x hx => by simp at hx; subst hx; rfl) (by decide) (by unfold maxLen; omega) (by omega) (by simp; omega) (w0a.heap.size + 1) (by simp) ?_; intro g0 cap0 w0 hown0 hgrow0 hat0 hlt0; have hr0 := fun q hq => (hown.lt q hq).1; replace hg := (hg.alloc _ _).grownBy hgrow0 (fun q hq => by rw [hsz]; exact hr0 q hq); clear c0 c1 c2 c3 c4 c5; obtain ⟨c0, c1, c2, c3, c4, c5⟩ := six_m hg)
  replace hown := hown0
  clear hown0 hgrow0 hat0 hlt0 hr0 hb0
  refine (k1 _ (hT1.grown hg)).mono ?_
  rintro e w1a ⟨rfl, hm⟩
  replace hown := row_more hown hm
  replace hg := More.trans' hg hm
  clear hm
  obtain ⟨c0, c1, c2, c3, c4, c5⟩ := six_m hg
  have hb1 : W.heap.size + 1 ≤ w1a.heap.size := by have := hg.2; omega
  go_wp2_with (at_builtin; refine wpList_append_lies _ rfl _ _ 52 rfl (W.heap.size + 1) 9 i0 (.string ByteArray.empty) 1 16 Tryd.underlying52 hi hz0 hz1 hz2 rfl (by decide) _ _ _ rfl (hown.alloc _) ⟨w1a.heap.size, 0, none⟩ 1 1 [.string X1] rfl rfl (cell_one_new _ _ _) (fun x hx => by simp at hx; subst hx; rfl) (by decide) (by unfold maxLen; omega) (by omega) (by simp; omega) (w1a.heap.size + 1) (by simp) ?_; intro g1 cap1 w1 hown1 hgrow1 hat1 hlt1; have hr1 := fun q hq => (hown.lt q hq).1; replace hg := (hg.alloc _ _).grownBy hgrow1 (fun q hq => by rw [hsz]; exact hr1 q hq); clear c0 c1 c2 c3 c4 c5; obtain ⟨c0, c1, c2, c3, c4, c5⟩ := six_m hg)
  replace hown := hown1
  clear hown1 hgrow1 hat1 hlt1 hr1 hb1
  refine (k2 _ (hT1.grown hg)).mono ?_
  rintro e w2a ⟨rfl, hm⟩
  replace hown := row_more hown hm
  replace hg := More.trans' hg hm
  clear hm
  obtain ⟨c0, c1, c2, c3, c4, c5⟩ := six_m hg
  have hb2 : W.heap.size + 1 ≤ w2a.heap.size := by have := hg.2; omega
  go_wp2_with (at_builtin; refine wpList_append_lies _ rfl _ _ 52 rfl (W.heap.size + 1) 9 i0 (.string ByteArray.empty) 1 16 Tryd.underlying52 hi hz0 hz1 hz2 rfl (by decide) _ _ _ rfl (hown.alloc _) ⟨w2a.heap.size, 0, none⟩ 1 1 [.string X2] rfl rfl (cell_one_new _ _ _) (fun x hx => by simp at hx; subst hx; rfl) (by decide) (by unfold maxLen; omega) (by omega) (by simp; omega) (w2a.heap.size + 1) (by simp) ?_; intro g2 cap2 w2 hown2 hgrow2 hat2 hlt2; have hr2 := fun q hq => (hown.lt q hq).1; replace hg := (hg.alloc _ _).grownBy hgrow2 (fun q hq => by rw [hsz]; exact hr2 q hq); clear c0 c1 c2 c3 c4 c5; obtain ⟨c0, c1, c2, c3, c4, c5⟩ := six_m hg)
  replace hown := hown2
  clear hown2 hgrow2 hat2 hlt2 hr2 hb2
  go_ret
  exact ⟨_, rfl, hown, More.trans' ((More.refl _).alloc _ _) hg⟩
set_option maxRecDepth 100000 in
set_option maxHeartbeats 2000000 in
theorem tell_0 (op rd rs1 rs2 imm csr : Int) (_i1 : inI rd) (_i2 : inI csr) (_i3 : inI rs1) (_i4 : inI rs2) (_i5 : inI imm) (W : World) (hT : Tab4 W) :
    Calls Tryd.prog 26 #[.agg #[.int .i64 op, .int .i64 rd, .int .i64 rs1, .int .i64 rs2, .int .i64 imm, .int .i64 csr], .int .i64 0] W fun e w' => ∃ v, e = .returned v ∧ w'.ownsRow (W.heap.size + 1) 9 1 v 0 [] ∧ More W w' := by
  obtain ⟨i0, hi, hz0, hz1, hz2⟩ := info_parts info_str
  have hT1 := hT.grown ((More.refl W).alloc #[.int .i64 op, .int .i64 rd, .int .i64 rs1, .int .i64 rs2, .int .i64 imm, .int .i64 csr] 23)
  have hg := More.refl (W.alloc (.cells #[.int .i64 op, .int .i64 rd, .int .i64 rs1, .int .i64 rs2, .int .i64 imm, .int .i64 csr] 23))
  have hown := World.ownsRow_nil (W.alloc (.cells #[.int .i64 op, .int .i64 rd, .int .i64 rs1, .int .i64 rs2, .int .i64 imm, .int .i64 csr] 23)) (W.heap.size + 1) 9 1
  have hsz : (W.alloc (.cells #[.int .i64 op, .int .i64 rd, .int .i64 rs1, .int .i64 rs2, .int .i64 imm, .int .i64 csr] 23)).heap.size = W.heap.size + 1 := Array.size_push ..
  have b1 : bits .and .i64 0 1 = 0 := by decide
  have b2 : bits .and .i64 0 2 = 0 := by decide
  have b4 : bits .and .i64 0 4 = 0 := by decide
  have b8 : bits .and .i64 0 8 = 0 := by decide
  have b16 : bits .and .i64 0 16 = 0 := by decide
  go_enter Tryd.func26, Tryd.ntmps26
  go_wp2_with fail
  go_ret
  exact ⟨_, rfl, hown, More.trans' ((More.refl _).alloc _ _) hg⟩
set_option maxRecDepth 100000 in
set_option maxHeartbeats 2000000 in
theorem tell_7 (op rd rs1 rs2 imm csr : Int) (i1 : inI rd) (i2 : inI csr) (i3 : inI rs1) (_i4 : inI rs2) (_i5 : inI imm) (W : World) (hT : Tab4 W) :
    Calls Tryd.prog 26 #[.agg #[.int .i64 op, .int .i64 rd, .int .i64 rs1, .int .i64 rs2, .int .i64 imm, .int .i64 csr], .int .i64 7] W fun e w' => ∃ v, e = .returned v ∧ w'.ownsRow (W.heap.size + 1) 9 1 v 3 [Value.string (bs (120 :: dgI rd)), Value.string (bs (dgI csr)), Value.string (bs (120 :: dgI rs1))] ∧ More W w' := by
  obtain ⟨i0, hi, hz0, hz1, hz2⟩ := info_parts info_str
  have hT1 := hT.grown ((More.refl W).alloc #[.int .i64 op, .int .i64 rd, .int .i64 rs1, .int .i64 rs2, .int .i64 imm, .int .i64 csr] 23)
  have hg := More.refl (W.alloc (.cells #[.int .i64 op, .int .i64 rd, .int .i64 rs1, .int .i64 rs2, .int .i64 imm, .int .i64 csr] 23))
  have hown := World.ownsRow_nil (W.alloc (.cells #[.int .i64 op, .int .i64 rd, .int .i64 rs1, .int .i64 rs2, .int .i64 imm, .int .i64 csr] 23)) (W.heap.size + 1) 9 1
  have hsz : (W.alloc (.cells #[.int .i64 op, .int .i64 rd, .int .i64 rs1, .int .i64 rs2, .int .i64 imm, .int .i64 csr] 23)).heap.size = W.heap.size + 1 := Array.size_push ..
  have b1 : bits .and .i64 7 1 = 1 := by decide
  have b2 : bits .and .i64 7 2 = 2 := by decide
  have b4 : bits .and .i64 7 4 = 4 := by decide
  have b8 : bits .and .i64 7 8 = 0 := by decide
  have b16 : bits .and .i64 7 16 = 0 := by decide
  have k0 := register_any rd i1.1 i1.2
  generalize bs (120 :: dgI rd) = X0 at *
  have k1 := eitoa_any csr i2.1 i2.2
  generalize bs (dgI csr) = X1 at *
  have k2 := register_any rs1 i3.1 i3.2
  generalize bs (120 :: dgI rs1) = X2 at *
  go_enter Tryd.func26, Tryd.ntmps26
  go_wp2_with fail
  refine (k0 _ (hT1.grown hg)).mono ?_
  rintro e w0a ⟨rfl, hm⟩
  replace hown := row_more hown hm
  replace hg := More.trans' hg hm
  clear hm
  obtain ⟨c0, c1, c2, c3, c4, c5⟩ := six_m hg
  have hb0 : W.heap.size + 1 ≤ w0a.heap.size := by have := hg.2; omega
  go_wp2_with (at_builtin; refine wpList_append_lies _ rfl _ _ 52 rfl (W.heap.size + 1) 9 i0 (.string ByteArray.empty) 1 16 Tryd.underlying52 hi hz0 hz1 hz2 rfl (by decide) _ _ _ rfl (hown.alloc _) ⟨w0a.heap.size, 0, none⟩ 1 1 [.string X0] rfl rfl (cell_one_new _ _ _) (fun x hx => by simp at hx; subst hx; rfl) (by decide) (by unfold maxLen; omega) (by omega) (by simp; omega) (w0a.heap.size + 1) (by simp) ?_; intro g0 cap0 w0 hown0 hgrow0 hat0 hlt0; have hr0 := fun q hq => (hown.lt q hq).1; replace hg := (hg.alloc _ _).grownBy hgrow0 (fun q hq => by rw [hsz]; exact hr0 q hq); clear c0 c1 c2 c3 c4 c5; obtain ⟨c0, c1, c2, c3, c4, c5⟩ := six_m hg)
  replace hown := hown0
  clear hown0 hgrow0 hat0 hlt0 hr0 hb0
  refine (k1 _ (hT1.grown hg)).mono ?_
  rintro e w1a ⟨rfl, hm⟩
  replace hown := row_more hown hm
  replace hg := More.trans' hg hm
  clear hm
  obtain ⟨c0, c1, c2, c3, c4, c5⟩ := six_m hg
  have hb1 : W.heap.size + 1 ≤ w1a.heap.size := by have := hg.2; omega
  go_wp2_with (at_builtin; refine wpList_append_lies _ rfl _ _ 52 rfl (W.heap.size + 1) 9 i0 (.string ByteArray.empty) 1 16 Tryd.underlying52 hi hz0 hz1 hz2 rfl (by decide) _ _ _ rfl (hown.alloc _) ⟨w1a.heap.size, 0, none⟩ 1 1 [.string X1] rfl rfl (cell_one_new _ _ _) (fun x hx => by simp at hx; subst hx; rfl) (by decide) (by unfold maxLen; omega) (by omega) (by simp; omega) (w1a.heap.size + 1) (by simp) ?_; intro g1 cap1 w1 hown1 hgrow1 hat1 hlt1; have hr1 := fun q hq => (hown.lt q hq).1; replace hg := (hg.alloc _ _).grownBy hgrow1 (fun q hq => by rw [hsz]; exact hr1 q hq); clear c0 c1 c2 c3 c4 c5; obtain ⟨c0, c1, c2, c3, c4, c5⟩ := six_m hg)
  replace hown := hown1
  clear hown1 hgrow1 hat1 hlt1 hr1 hb1
  refine (k2 _ (hT1.grown hg)).mono ?_
  rintro e w2a ⟨rfl, hm⟩
  replace hown := row_more hown hm
  replace hg := More.trans' hg hm
  clear hm
  obtain ⟨c0, c1, c2, c3, c4, c5⟩ := six_m hg
  have hb2 : W.heap.size + 1 ≤ w2a.heap.size := by have := hg.2; omega
  go_wp2_with (at_builtin; refine wpList_append_lies _ rfl _ _ 52 rfl (W.heap.size + 1) 9 i0 (.string ByteArray.empty) 1 16 Tryd.underlying52 hi hz0 hz1 hz2 rfl (by decide) _ _ _ rfl (hown.alloc _) ⟨w2a.heap.size, 0, none⟩ 1 1 [.string X2] rfl rfl (cell_one_new _ _ _) (fun x hx => by simp at hx; subst hx; rfl) (by decide) (by unfold maxLen; omega) (by omega) (by simp; omega) (w2a.heap.size + 1) (by simp) ?_; intro g2 cap2 w2 hown2 hgrow2 hat2 hlt2; have hr2 := fun q hq => (hown.lt q hq).1; replace hg := (hg.alloc _ _).grownBy hgrow2 (fun q hq => by rw [hsz]; exact hr2 q hq); clear c0 c1 c2 c3 c4 c5; obtain ⟨c0, c1, c2, c3, c4, c5⟩ := six_m hg)
  replace hown := hown2
  clear hown2 hgrow2 hat2 hlt2 hr2 hb2
  go_ret
  exact ⟨_, rfl, hown, More.trans' ((More.refl _).alloc _ _) hg⟩
set_option maxRecDepth 100000 in
set_option maxHeartbeats 2000000 in
theorem tell_19 (op rd rs1 rs2 imm csr : Int) (i1 : inI rd) (i2 : inI csr) (_i3 : inI rs1) (_i4 : inI rs2) (i5 : inI imm) (W : World) (hT : Tab4 W) :
    Calls Tryd.prog 26 #[.agg #[.int .i64 op, .int .i64 rd, .int .i64 rs1, .int .i64 rs2, .int .i64 imm, .int .i64 csr], .int .i64 19] W fun e w' => ∃ v, e = .returned v ∧ w'.ownsRow (W.heap.size + 1) 9 1 v 3 [Value.string (bs (120 :: dgI rd)), Value.string (bs (dgI csr)), Value.string (bs (dgI imm))] ∧ More W w' := by
  obtain ⟨i0, hi, hz0, hz1, hz2⟩ := info_parts info_str
  have hT1 := hT.grown ((More.refl W).alloc #[.int .i64 op, .int .i64 rd, .int .i64 rs1, .int .i64 rs2, .int .i64 imm, .int .i64 csr] 23)
  have hg := More.refl (W.alloc (.cells #[.int .i64 op, .int .i64 rd, .int .i64 rs1, .int .i64 rs2, .int .i64 imm, .int .i64 csr] 23))
  have hown := World.ownsRow_nil (W.alloc (.cells #[.int .i64 op, .int .i64 rd, .int .i64 rs1, .int .i64 rs2, .int .i64 imm, .int .i64 csr] 23)) (W.heap.size + 1) 9 1
  have hsz : (W.alloc (.cells #[.int .i64 op, .int .i64 rd, .int .i64 rs1, .int .i64 rs2, .int .i64 imm, .int .i64 csr] 23)).heap.size = W.heap.size + 1 := Array.size_push ..
  have b1 : bits .and .i64 19 1 = 1 := by decide
  have b2 : bits .and .i64 19 2 = 2 := by decide
  have b4 : bits .and .i64 19 4 = 0 := by decide
  have b8 : bits .and .i64 19 8 = 0 := by decide
  have b16 : bits .and .i64 19 16 = 16 := by decide
  have k0 := register_any rd i1.1 i1.2
  generalize bs (120 :: dgI rd) = X0 at *
  have k1 := eitoa_any csr i2.1 i2.2
  generalize bs (dgI csr) = X1 at *
  have k2 := eformat_any imm i5.1 i5.2
  generalize bs (dgI imm) = X2 at *
  go_enter Tryd.func26, Tryd.ntmps26
  go_wp2_with fail
  refine (k0 _ (hT1.grown hg)).mono ?_
  rintro e w0a ⟨rfl, hm⟩
  replace hown := row_more hown hm
  replace hg := More.trans' hg hm
  clear hm
  obtain ⟨c0, c1, c2, c3, c4, c5⟩ := six_m hg
  have hb0 : W.heap.size + 1 ≤ w0a.heap.size := by have := hg.2; omega
  go_wp2_with (at_builtin; refine wpList_append_lies _ rfl _ _ 52 rfl (W.heap.size + 1) 9 i0 (.string ByteArray.empty) 1 16 Tryd.underlying52 hi hz0 hz1 hz2 rfl (by decide) _ _ _ rfl (hown.alloc _) ⟨w0a.heap.size, 0, none⟩ 1 1 [.string X0] rfl rfl (cell_one_new _ _ _) (fun x hx => by simp at hx; subst hx; rfl) (by decide) (by unfold maxLen; omega) (by omega) (by simp; omega) (w0a.heap.size + 1) (by simp) ?_; intro g0 cap0 w0 hown0 hgrow0 hat0 hlt0; have hr0 := fun q hq => (hown.lt q hq).1; replace hg := (hg.alloc _ _).grownBy hgrow0 (fun q hq => by rw [hsz]; exact hr0 q hq); clear c0 c1 c2 c3 c4 c5; obtain ⟨c0, c1, c2, c3, c4, c5⟩ := six_m hg)
  replace hown := hown0
  clear hown0 hgrow0 hat0 hlt0 hr0 hb0
  refine (k1 _ (hT1.grown hg)).mono ?_
  rintro e w1a ⟨rfl, hm⟩
  replace hown := row_more hown hm
  replace hg := More.trans' hg hm
  clear hm
  obtain ⟨c0, c1, c2, c3, c4, c5⟩ := six_m hg
  have hb1 : W.heap.size + 1 ≤ w1a.heap.size := by have := hg.2; omega
  go_wp2_with (at_builtin; refine wpList_append_lies _ rfl _ _ 52 rfl (W.heap.size + 1) 9 i0 (.string ByteArray.empty) 1 16 Tryd.underlying52 hi hz0 hz1 hz2 rfl (by decide) _ _ _ rfl (hown.alloc _) ⟨w1a.heap.size, 0, none⟩ 1 1 [.string X1] rfl rfl (cell_one_new _ _ _) (fun x hx => by simp at hx; subst hx; rfl) (by decide) (by unfold maxLen; omega) (by omega) (by simp; omega) (w1a.heap.size + 1) (by simp) ?_; intro g1 cap1 w1 hown1 hgrow1 hat1 hlt1; have hr1 := fun q hq => (hown.lt q hq).1; replace hg := (hg.alloc _ _).grownBy hgrow1 (fun q hq => by rw [hsz]; exact hr1 q hq); clear c0 c1 c2 c3 c4 c5; obtain ⟨c0, c1, c2, c3, c4, c5⟩ := six_m hg)
  replace hown := hown1
  clear hown1 hgrow1 hat1 hlt1 hr1 hb1
  refine (k2 _ (hT1.grown hg)).mono ?_
  rintro e w2a ⟨rfl, hm⟩
  replace hown := row_more hown hm
  replace hg := More.trans' hg hm
  clear hm
  obtain ⟨c0, c1, c2, c3, c4, c5⟩ := six_m hg
  have hb2 : W.heap.size + 1 ≤ w2a.heap.size := by have := hg.2; omega
  go_wp2_with (at_builtin; refine wpList_append_lies _ rfl _ _ 52 rfl (W.heap.size + 1) 9 i0 (.string ByteArray.empty) 1 16 Tryd.underlying52 hi hz0 hz1 hz2 rfl (by decide) _ _ _ rfl (hown.alloc _) ⟨w2a.heap.size, 0, none⟩ 1 1 [.string X2] rfl rfl (cell_one_new _ _ _) (fun x hx => by simp at hx; subst hx; rfl) (by decide) (by unfold maxLen; omega) (by omega) (by simp; omega) (w2a.heap.size + 1) (by simp) ?_; intro g2 cap2 w2 hown2 hgrow2 hat2 hlt2; have hr2 := fun q hq => (hown.lt q hq).1; replace hg := (hg.alloc _ _).grownBy hgrow2 (fun q hq => by rw [hsz]; exact hr2 q hq); clear c0 c1 c2 c3 c4 c5; obtain ⟨c0, c1, c2, c3, c4, c5⟩ := six_m hg)
  replace hown := hown2
  clear hown2 hgrow2 hat2 hlt2 hr2 hb2
  go_ret
  exact ⟨_, rfl, hown, More.trans' ((More.refl _).alloc _ _) hg⟩
set_option maxRecDepth 100000 in
set_option maxHeartbeats 2000000 in
theorem tell_12 (op rd rs1 rs2 imm csr : Int) (_i1 : inI rd) (_i2 : inI csr) (i3 : inI rs1) (i4 : inI rs2) (_i5 : inI imm) (W : World) (hT : Tab4 W) :
    Calls Tryd.prog 26 #[.agg #[.int .i64 op, .int .i64 rd, .int .i64 rs1, .int .i64 rs2, .int .i64 imm, .int .i64 csr], .int .i64 12] W fun e w' => ∃ v, e = .returned v ∧ w'.ownsRow (W.heap.size + 1) 9 1 v 2 [Value.string (bs (120 :: dgI rs1)), Value.string (bs (120 :: dgI rs2))] ∧ More W w' := by
  obtain ⟨i0, hi, hz0, hz1, hz2⟩ := info_parts info_str
  have hT1 := hT.grown ((More.refl W).alloc #[.int .i64 op, .int .i64 rd, .int .i64 rs1, .int .i64 rs2, .int .i64 imm, .int .i64 csr] 23)
  have hg := More.refl (W.alloc (.cells #[.int .i64 op, .int .i64 rd, .int .i64 rs1, .int .i64 rs2, .int .i64 imm, .int .i64 csr] 23))
  have hown := World.ownsRow_nil (W.alloc (.cells #[.int .i64 op, .int .i64 rd, .int .i64 rs1, .int .i64 rs2, .int .i64 imm, .int .i64 csr] 23)) (W.heap.size + 1) 9 1
  have hsz : (W.alloc (.cells #[.int .i64 op, .int .i64 rd, .int .i64 rs1, .int .i64 rs2, .int .i64 imm, .int .i64 csr] 23)).heap.size = W.heap.size + 1 := Array.size_push ..
  have b1 : bits .and .i64 12 1 = 0 := by decide
  have b2 : bits .and .i64 12 2 = 0 := by decide
  have b4 : bits .and .i64 12 4 = 4 := by decide
  have b8 : bits .and .i64 12 8 = 8 := by decide
  have b16 : bits .and .i64 12 16 = 0 := by decide
  have k0 := register_any rs1 i3.1 i3.2
  generalize bs (120 :: dgI rs1) = X0 at *
  have k1 := register_any rs2 i4.1 i4.2
  generalize bs (120 :: dgI rs2) = X1 at *
  go_enter Tryd.func26, Tryd.ntmps26
  go_wp2_with fail
  refine (k0 _ (hT1.grown hg)).mono ?_
  rintro e w0a ⟨rfl, hm⟩
  replace hown := row_more hown hm
  replace hg := More.trans' hg hm
  clear hm
  obtain ⟨c0, c1, c2, c3, c4, c5⟩ := six_m hg
  have hb0 : W.heap.size + 1 ≤ w0a.heap.size := by have := hg.2; omega
  go_wp2_with (at_builtin; refine wpList_append_lies _ rfl _ _ 52 rfl (W.heap.size + 1) 9 i0 (.string ByteArray.empty) 1 16 Tryd.underlying52 hi hz0 hz1 hz2 rfl (by decide) _ _ _ rfl (hown.alloc _) ⟨w0a.heap.size, 0, none⟩ 1 1 [.string X0] rfl rfl (cell_one_new _ _ _) (fun x hx => by simp at hx; subst hx; rfl) (by decide) (by unfold maxLen; omega) (by omega) (by simp; omega) (w0a.heap.size + 1) (by simp) ?_; intro g0 cap0 w0 hown0 hgrow0 hat0 hlt0; have hr0 := fun q hq => (hown.lt q hq).1; replace hg := (hg.alloc _ _).grownBy hgrow0 (fun q hq => by rw [hsz]; exact hr0 q hq); clear c0 c1 c2 c3 c4 c5; obtain ⟨c0, c1, c2, c3, c4, c5⟩ := six_m hg)
  replace hown := hown0
  clear hown0 hgrow0 hat0 hlt0 hr0 hb0
  refine (k1 _ (hT1.grown hg)).mono ?_
  rintro e w1a ⟨rfl, hm⟩
  replace hown := row_more hown hm
  replace hg := More.trans' hg hm
  clear hm
  obtain ⟨c0, c1, c2, c3, c4, c5⟩ := six_m hg
  have hb1 : W.heap.size + 1 ≤ w1a.heap.size := by have := hg.2; omega
  go_wp2_with (at_builtin; refine wpList_append_lies _ rfl _ _ 52 rfl (W.heap.size + 1) 9 i0 (.string ByteArray.empty) 1 16 Tryd.underlying52 hi hz0 hz1 hz2 rfl (by decide) _ _ _ rfl (hown.alloc _) ⟨w1a.heap.size, 0, none⟩ 1 1 [.string X1] rfl rfl (cell_one_new _ _ _) (fun x hx => by simp at hx; subst hx; rfl) (by decide) (by unfold maxLen; omega) (by omega) (by simp; omega) (w1a.heap.size + 1) (by simp) ?_; intro g1 cap1 w1 hown1 hgrow1 hat1 hlt1; have hr1 := fun q hq => (hown.lt q hq).1; replace hg := (hg.alloc _ _).grownBy hgrow1 (fun q hq => by rw [hsz]; exact hr1 q hq); clear c0 c1 c2 c3 c4 c5; obtain ⟨c0, c1, c2, c3, c4, c5⟩ := six_m hg)
  replace hown := hown1
  clear hown1 hgrow1 hat1 hlt1 hr1 hb1
  go_ret
  exact ⟨_, rfl, hown, More.trans' ((More.refl _).alloc _ _) hg⟩
set_option maxRecDepth 100000 in
set_option maxHeartbeats 2000000 in
theorem tell_5 (op rd rs1 rs2 imm csr : Int) (i1 : inI rd) (_i2 : inI csr) (i3 : inI rs1) (_i4 : inI rs2) (_i5 : inI imm) (W : World) (hT : Tab4 W) :
    Calls Tryd.prog 26 #[.agg #[.int .i64 op, .int .i64 rd, .int .i64 rs1, .int .i64 rs2, .int .i64 imm, .int .i64 csr], .int .i64 5] W fun e w' => ∃ v, e = .returned v ∧ w'.ownsRow (W.heap.size + 1) 9 1 v 2 [Value.string (bs (120 :: dgI rd)), Value.string (bs (120 :: dgI rs1))] ∧ More W w' := by
  obtain ⟨i0, hi, hz0, hz1, hz2⟩ := info_parts info_str
  have hT1 := hT.grown ((More.refl W).alloc #[.int .i64 op, .int .i64 rd, .int .i64 rs1, .int .i64 rs2, .int .i64 imm, .int .i64 csr] 23)
  have hg := More.refl (W.alloc (.cells #[.int .i64 op, .int .i64 rd, .int .i64 rs1, .int .i64 rs2, .int .i64 imm, .int .i64 csr] 23))
  have hown := World.ownsRow_nil (W.alloc (.cells #[.int .i64 op, .int .i64 rd, .int .i64 rs1, .int .i64 rs2, .int .i64 imm, .int .i64 csr] 23)) (W.heap.size + 1) 9 1
  have hsz : (W.alloc (.cells #[.int .i64 op, .int .i64 rd, .int .i64 rs1, .int .i64 rs2, .int .i64 imm, .int .i64 csr] 23)).heap.size = W.heap.size + 1 := Array.size_push ..
  have b1 : bits .and .i64 5 1 = 1 := by decide
  have b2 : bits .and .i64 5 2 = 0 := by decide
  have b4 : bits .and .i64 5 4 = 4 := by decide
  have b8 : bits .and .i64 5 8 = 0 := by decide
  have b16 : bits .and .i64 5 16 = 0 := by decide
  have k0 := register_any rd i1.1 i1.2
  generalize bs (120 :: dgI rd) = X0 at *
  have k1 := register_any rs1 i3.1 i3.2
  generalize bs (120 :: dgI rs1) = X1 at *
  go_enter Tryd.func26, Tryd.ntmps26
  go_wp2_with fail
  refine (k0 _ (hT1.grown hg)).mono ?_
  rintro e w0a ⟨rfl, hm⟩
  replace hown := row_more hown hm
  replace hg := More.trans' hg hm
  clear hm
  obtain ⟨c0, c1, c2, c3, c4, c5⟩ := six_m hg
  have hb0 : W.heap.size + 1 ≤ w0a.heap.size := by have := hg.2; omega
  go_wp2_with (at_builtin; refine wpList_append_lies _ rfl _ _ 52 rfl (W.heap.size + 1) 9 i0 (.string ByteArray.empty) 1 16 Tryd.underlying52 hi hz0 hz1 hz2 rfl (by decide) _ _ _ rfl (hown.alloc _) ⟨w0a.heap.size, 0, none⟩ 1 1 [.string X0] rfl rfl (cell_one_new _ _ _) (fun x hx => by simp at hx; subst hx; rfl) (by decide) (by unfold maxLen; omega) (by omega) (by simp; omega) (w0a.heap.size + 1) (by simp) ?_; intro g0 cap0 w0 hown0 hgrow0 hat0 hlt0; have hr0 := fun q hq => (hown.lt q hq).1; replace hg := (hg.alloc _ _).grownBy hgrow0 (fun q hq => by rw [hsz]; exact hr0 q hq); clear c0 c1 c2 c3 c4 c5; obtain ⟨c0, c1, c2, c3, c4, c5⟩ := six_m hg)
  replace hown := hown0
  clear hown0 hgrow0 hat0 hlt0 hr0 hb0
  refine (k1 _ (hT1.grown hg)).mono ?_
  rintro e w1a ⟨rfl, hm⟩
  replace hown := row_more hown hm
  replace hg := More.trans' hg hm
  clear hm
  obtain ⟨c0, c1, c2, c3, c4, c5⟩ := six_m hg
  have hb1 : W.heap.size + 1 ≤ w1a.heap.size := by have := hg.2; omega
  go_wp2_with (at_builtin; refine wpList_append_lies _ rfl _ _ 52 rfl (W.heap.size + 1) 9 i0 (.string ByteArray.empty) 1 16 Tryd.underlying52 hi hz0 hz1 hz2 rfl (by decide) _ _ _ rfl (hown.alloc _) ⟨w1a.heap.size, 0, none⟩ 1 1 [.string X1] rfl rfl (cell_one_new _ _ _) (fun x hx => by simp at hx; subst hx; rfl) (by decide) (by unfold maxLen; omega) (by omega) (by simp; omega) (w1a.heap.size + 1) (by simp) ?_; intro g1 cap1 w1 hown1 hgrow1 hat1 hlt1; have hr1 := fun q hq => (hown.lt q hq).1; replace hg := (hg.alloc _ _).grownBy hgrow1 (fun q hq => by rw [hsz]; exact hr1 q hq); clear c0 c1 c2 c3 c4 c5; obtain ⟨c0, c1, c2, c3, c4, c5⟩ := six_m hg)
  replace hown := hown1
  clear hown1 hgrow1 hat1 hlt1 hr1 hb1
  go_ret
  exact ⟨_, rfl, hown, More.trans' ((More.refl _).alloc _ _) hg⟩
end Go.Proofs.YtdogjmimjjmmaaaDoor
