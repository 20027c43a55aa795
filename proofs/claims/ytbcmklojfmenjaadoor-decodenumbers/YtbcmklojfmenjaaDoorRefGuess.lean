/-
  What the document's guess and Encode answer (the reference of layers 3 and 4), for every operation.
-/
import Derived.Test.YtbcmklojfmenjaaDoorRefGuessB
namespace Go.Proofs.YtbcmklojfmenjaaDoor
open Go.RowKit
def gRdI (op v : Int) : Int := cond (hasRd op) (gRd v) 0
def gRs1I (op v : Int) : Int := cond (hasRs1 op) (gRs1 v) 0
def gRs2I (op v : Int) : Int := cond (hasRs2 op) (gRs2 v) 0
def gCsrI (op v : Int) : Int := cond (hasCsr op) (gCsr v) 0
def gImmI (op v : Int) : Int :=
  if op ≤ 2 then gU v else if op = 3 then gJ v else if clsI op = 2 then gB v else if clsI op = 4 then gS v else if 28 ≤ op ∧ op ≤ 30 then g6 v
  else if 32 ≤ op ∧ op ≤ 34 then g5 v else if 57 ≤ op ∧ op ≤ 59 then gZ v else if op = 4 ∨ clsI op = 3 ∨ clsI op = 5 then gI v else 0
theorem op_ranges {op : Int} (h0 : 1 ≤ op) (h1 : op ≤ 69) : (1 ≤ op ∧ op ≤ 2) ∨ (3 ≤ op ∧ op ≤ 3) ∨ (4 ≤ op ∧ op ≤ 4) ∨ (5 ≤ op ∧ op ≤ 10) ∨ (11 ≤ op ∧ op ≤ 17) ∨ (18 ≤ op ∧ op ≤ 21) ∨ (22 ≤ op ∧ op ≤ 27) ∨ (28 ≤ op ∧ op ≤ 30) ∨ (31 ≤ op ∧ op ≤ 31) ∨ (32 ≤ op ∧ op ≤ 34) ∨ (35 ≤ op ∧ op ≤ 49) ∨ (50 ≤ op ∧ op ≤ 51) ∨ (52 ≤ op ∧ op ≤ 53) ∨ (54 ≤ op ∧ op ≤ 56) ∨ (57 ≤ op ∧ op ≤ 59) ∨ (60 ≤ op ∧ op ≤ 62) ∨ (63 ≤ op ∧ op ≤ 65) ∨ (66 ≤ op ∧ op ≤ 68) ∨ (69 ≤ op ∧ op ≤ 69) := by omega
set_option maxHeartbeats 1000000 in
theorem guess_any (op v : Int) (h0 : 1 ≤ op) (h1 : op ≤ 69) (hv0 : 0 ≤ v) (hv1 : v < 4294967296) (w : World) :
    Calls Tryd.prog 21 #[.int .i64 op, .int .u32 v] w fun e w' => e = .returned (.agg #[.int .i64 op, .int .i64 (gRdI op v), .int .i64 (gRs1I op v), .int .i64 (gRs2I op v), .int .i64 (gImmI op v), .int .i64 (gCsrI op v)]) ∧ Grown w w' := by
  rcases op_ranges h0 h1 with ⟨l, u⟩ | ⟨l, u⟩ | ⟨l, u⟩ | ⟨l, u⟩ | ⟨l, u⟩ | ⟨l, u⟩ | ⟨l, u⟩ | ⟨l, u⟩ | ⟨l, u⟩ | ⟨l, u⟩ | ⟨l, u⟩ | ⟨l, u⟩ | ⟨l, u⟩ | ⟨l, u⟩ | ⟨l, u⟩ | ⟨l, u⟩ | ⟨l, u⟩ | ⟨l, u⟩ | ⟨l, u⟩
  · have hc : clsI op = 1 := (cls_1 (by omega) (by omega)).symm
    have e1 : gRdI op v = gRd v := by unfold gRdI; rw [show hasRd op = true from decide_eq_true (by omega)]; rfl
    have e2 : gRs1I op v = 0 := by unfold gRs1I; rw [show hasRs1 op = false from decide_eq_false (by omega)]; rfl
    have e3 : gRs2I op v = 0 := by unfold gRs2I; rw [show hasRs2 op = false from decide_eq_false (by omega)]; rfl
    have e4 : gCsrI op v = 0 := by unfold gCsrI; rw [show hasCsr op = false from decide_eq_false (by omega)]; rfl
    have e5 : gImmI op v = gU v := by
      unfold gImmI
      rw [hc]
      repeat rw [if_neg (by omega)]
      rw [if_pos (by omega)]
    rw [e1, e2, e3, e4, e5]
    exact guess_U op v l u hv0 hv1 w
  · have hc : clsI op = 1 := (cls_1 (by omega) (by omega)).symm
    have e1 : gRdI op v = gRd v := by unfold gRdI; rw [show hasRd op = true from decide_eq_true (by omega)]; rfl
    have e2 : gRs1I op v = 0 := by unfold gRs1I; rw [show hasRs1 op = false from decide_eq_false (by omega)]; rfl
    have e3 : gRs2I op v = 0 := by unfold gRs2I; rw [show hasRs2 op = false from decide_eq_false (by omega)]; rfl
    have e4 : gCsrI op v = 0 := by unfold gCsrI; rw [show hasCsr op = false from decide_eq_false (by omega)]; rfl
    have e5 : gImmI op v = gJ v := by
      unfold gImmI
      rw [hc]
      repeat rw [if_neg (by omega)]
      rw [if_pos (by omega)]
    rw [e1, e2, e3, e4, e5]
    exact guess_J op v l u hv0 hv1 w
  · have hc : clsI op = 1 := (cls_1 (by omega) (by omega)).symm
    have e1 : gRdI op v = gRd v := by unfold gRdI; rw [show hasRd op = true from decide_eq_true (by omega)]; rfl
    have e2 : gRs1I op v = gRs1 v := by unfold gRs1I; rw [show hasRs1 op = true from decide_eq_true (by omega)]; rfl
    have e3 : gRs2I op v = 0 := by unfold gRs2I; rw [show hasRs2 op = false from decide_eq_false (by omega)]; rfl
    have e4 : gCsrI op v = 0 := by unfold gCsrI; rw [show hasCsr op = false from decide_eq_false (by omega)]; rfl
    have e5 : gImmI op v = gI v := by
      unfold gImmI
      rw [hc]
      repeat rw [if_neg (by omega)]
      rw [if_pos (by omega)]
    rw [e1, e2, e3, e4, e5]
    exact guess_Jr op v l u hv0 hv1 w
  · have hc : clsI op = 2 := (cls_2 (by omega) (by omega)).symm
    have e1 : gRdI op v = 0 := by unfold gRdI; rw [show hasRd op = false from decide_eq_false (by omega)]; rfl
    have e2 : gRs1I op v = gRs1 v := by unfold gRs1I; rw [show hasRs1 op = true from decide_eq_true (by omega)]; rfl
    have e3 : gRs2I op v = gRs2 v := by unfold gRs2I; rw [show hasRs2 op = true from decide_eq_true (by omega)]; rfl
    have e4 : gCsrI op v = 0 := by unfold gCsrI; rw [show hasCsr op = false from decide_eq_false (by omega)]; rfl
    have e5 : gImmI op v = gB v := by
      unfold gImmI
      rw [hc]
      repeat rw [if_neg (by omega)]
      rw [if_pos (by omega)]
    rw [e1, e2, e3, e4, e5]
    exact guess_B op v l u hv0 hv1 w
  · have hc : clsI op = 3 := (cls_3 (by omega) (by omega)).symm
    have e1 : gRdI op v = gRd v := by unfold gRdI; rw [show hasRd op = true from decide_eq_true (by omega)]; rfl
    have e2 : gRs1I op v = gRs1 v := by unfold gRs1I; rw [show hasRs1 op = true from decide_eq_true (by omega)]; rfl
    have e3 : gRs2I op v = 0 := by unfold gRs2I; rw [show hasRs2 op = false from decide_eq_false (by omega)]; rfl
    have e4 : gCsrI op v = 0 := by unfold gCsrI; rw [show hasCsr op = false from decide_eq_false (by omega)]; rfl
    have e5 : gImmI op v = gI v := by
      unfold gImmI
      rw [hc]
      repeat rw [if_neg (by omega)]
      rw [if_pos (by omega)]
    rw [e1, e2, e3, e4, e5]
    exact guess_L op v l u hv0 hv1 w
  · have hc : clsI op = 4 := (cls_4 (by omega) (by omega)).symm
    have e1 : gRdI op v = 0 := by unfold gRdI; rw [show hasRd op = false from decide_eq_false (by omega)]; rfl
    have e2 : gRs1I op v = gRs1 v := by unfold gRs1I; rw [show hasRs1 op = true from decide_eq_true (by omega)]; rfl
    have e3 : gRs2I op v = gRs2 v := by unfold gRs2I; rw [show hasRs2 op = true from decide_eq_true (by omega)]; rfl
    have e4 : gCsrI op v = 0 := by unfold gCsrI; rw [show hasCsr op = false from decide_eq_false (by omega)]; rfl
    have e5 : gImmI op v = gS v := by
      unfold gImmI
      rw [hc]
      repeat rw [if_neg (by omega)]
      rw [if_pos (by omega)]
    rw [e1, e2, e3, e4, e5]
    exact guess_S op v l u hv0 hv1 w
  · have hc : clsI op = 5 := (cls_5 (by omega) (by omega)).symm
    have e1 : gRdI op v = gRd v := by unfold gRdI; rw [show hasRd op = true from decide_eq_true (by omega)]; rfl
    have e2 : gRs1I op v = gRs1 v := by unfold gRs1I; rw [show hasRs1 op = true from decide_eq_true (by omega)]; rfl
    have e3 : gRs2I op v = 0 := by unfold gRs2I; rw [show hasRs2 op = false from decide_eq_false (by omega)]; rfl
    have e4 : gCsrI op v = 0 := by unfold gCsrI; rw [show hasCsr op = false from decide_eq_false (by omega)]; rfl
    have e5 : gImmI op v = gI v := by
      unfold gImmI
      rw [hc]
      repeat rw [if_neg (by omega)]
      rw [if_pos (by omega)]
    rw [e1, e2, e3, e4, e5]
    exact guess_I op v l u hv0 hv1 w
  · have hc : clsI op = 5 := (cls_5 (by omega) (by omega)).symm
    have e1 : gRdI op v = gRd v := by unfold gRdI; rw [show hasRd op = true from decide_eq_true (by omega)]; rfl
    have e2 : gRs1I op v = gRs1 v := by unfold gRs1I; rw [show hasRs1 op = true from decide_eq_true (by omega)]; rfl
    have e3 : gRs2I op v = 0 := by unfold gRs2I; rw [show hasRs2 op = false from decide_eq_false (by omega)]; rfl
    have e4 : gCsrI op v = 0 := by unfold gCsrI; rw [show hasCsr op = false from decide_eq_false (by omega)]; rfl
    have e5 : gImmI op v = g6 v := by
      unfold gImmI
      rw [hc]
      repeat rw [if_neg (by omega)]
      rw [if_pos (by omega)]
    rw [e1, e2, e3, e4, e5]
    exact guess_H op v l u hv0 hv1 w
  · have hc : clsI op = 5 := (cls_5 (by omega) (by omega)).symm
    have e1 : gRdI op v = gRd v := by unfold gRdI; rw [show hasRd op = true from decide_eq_true (by omega)]; rfl
    have e2 : gRs1I op v = gRs1 v := by unfold gRs1I; rw [show hasRs1 op = true from decide_eq_true (by omega)]; rfl
    have e3 : gRs2I op v = 0 := by unfold gRs2I; rw [show hasRs2 op = false from decide_eq_false (by omega)]; rfl
    have e4 : gCsrI op v = 0 := by unfold gCsrI; rw [show hasCsr op = false from decide_eq_false (by omega)]; rfl
    have e5 : gImmI op v = gI v := by
      unfold gImmI
      rw [hc]
      repeat rw [if_neg (by omega)]
      rw [if_pos (by omega)]
    rw [e1, e2, e3, e4, e5]
    exact guess_Iw op v l u hv0 hv1 w
  · have hc : clsI op = 5 := (cls_5 (by omega) (by omega)).symm
    have e1 : gRdI op v = gRd v := by unfold gRdI; rw [show hasRd op = true from decide_eq_true (by omega)]; rfl
    have e2 : gRs1I op v = gRs1 v := by unfold gRs1I; rw [show hasRs1 op = true from decide_eq_true (by omega)]; rfl
    have e3 : gRs2I op v = 0 := by unfold gRs2I; rw [show hasRs2 op = false from decide_eq_false (by omega)]; rfl
    have e4 : gCsrI op v = 0 := by unfold gCsrI; rw [show hasCsr op = false from decide_eq_false (by omega)]; rfl
    have e5 : gImmI op v = g5 v := by
      unfold gImmI
      rw [hc]
      repeat rw [if_neg (by omega)]
      rw [if_pos (by omega)]
    rw [e1, e2, e3, e4, e5]
    exact guess_Hw op v l u hv0 hv1 w
  · have hc : clsI op = 6 := (cls_6 (by omega) (by omega)).symm
    have e1 : gRdI op v = gRd v := by unfold gRdI; rw [show hasRd op = true from decide_eq_true (by omega)]; rfl
    have e2 : gRs1I op v = gRs1 v := by unfold gRs1I; rw [show hasRs1 op = true from decide_eq_true (by omega)]; rfl
    have e3 : gRs2I op v = gRs2 v := by unfold gRs2I; rw [show hasRs2 op = true from decide_eq_true (by omega)]; rfl
    have e4 : gCsrI op v = 0 := by unfold gCsrI; rw [show hasCsr op = false from decide_eq_false (by omega)]; rfl
    have e5 : gImmI op v = 0 := by
      unfold gImmI
      rw [hc]
      repeat rw [if_neg (by omega)]
    rw [e1, e2, e3, e4, e5]
    exact guess_R op v l u hv0 hv1 w
  · have hc : clsI op = 7 := (cls_7 (by omega) (by omega)).symm
    have e1 : gRdI op v = 0 := by unfold gRdI; rw [show hasRd op = false from decide_eq_false (by omega)]; rfl
    have e2 : gRs1I op v = 0 := by unfold gRs1I; rw [show hasRs1 op = false from decide_eq_false (by omega)]; rfl
    have e3 : gRs2I op v = 0 := by unfold gRs2I; rw [show hasRs2 op = false from decide_eq_false (by omega)]; rfl
    have e4 : gCsrI op v = 0 := by unfold gCsrI; rw [show hasCsr op = false from decide_eq_false (by omega)]; rfl
    have e5 : gImmI op v = 0 := by
      unfold gImmI
      rw [hc]
      repeat rw [if_neg (by omega)]
    rw [e1, e2, e3, e4, e5]
    exact guess_F op v l u hv0 hv1 w
  · have hc : clsI op = 8 := (cls_8 (by omega) (by omega)).symm
    have e1 : gRdI op v = 0 := by unfold gRdI; rw [show hasRd op = false from decide_eq_false (by omega)]; rfl
    have e2 : gRs1I op v = 0 := by unfold gRs1I; rw [show hasRs1 op = false from decide_eq_false (by omega)]; rfl
    have e3 : gRs2I op v = 0 := by unfold gRs2I; rw [show hasRs2 op = false from decide_eq_false (by omega)]; rfl
    have e4 : gCsrI op v = 0 := by unfold gCsrI; rw [show hasCsr op = false from decide_eq_false (by omega)]; rfl
    have e5 : gImmI op v = 0 := by
      unfold gImmI
      rw [hc]
      repeat rw [if_neg (by omega)]
    rw [e1, e2, e3, e4, e5]
    exact guess_E op v l u hv0 hv1 w
  · have hc : clsI op = 9 := (cls_9 (by omega) (by omega)).symm
    have e1 : gRdI op v = gRd v := by unfold gRdI; rw [show hasRd op = true from decide_eq_true (by omega)]; rfl
    have e2 : gRs1I op v = gRs1 v := by unfold gRs1I; rw [show hasRs1 op = true from decide_eq_true (by omega)]; rfl
    have e3 : gRs2I op v = 0 := by unfold gRs2I; rw [show hasRs2 op = false from decide_eq_false (by omega)]; rfl
    have e4 : gCsrI op v = gCsr v := by unfold gCsrI; rw [show hasCsr op = true from decide_eq_true (by omega)]; rfl
    have e5 : gImmI op v = 0 := by
      unfold gImmI
      rw [hc]
      repeat rw [if_neg (by omega)]
    rw [e1, e2, e3, e4, e5]
    exact guess_C op v l u hv0 hv1 w
  · have hc : clsI op = 9 := (cls_9 (by omega) (by omega)).symm
    have e1 : gRdI op v = gRd v := by unfold gRdI; rw [show hasRd op = true from decide_eq_true (by omega)]; rfl
    have e2 : gRs1I op v = 0 := by unfold gRs1I; rw [show hasRs1 op = false from decide_eq_false (by omega)]; rfl
    have e3 : gRs2I op v = 0 := by unfold gRs2I; rw [show hasRs2 op = false from decide_eq_false (by omega)]; rfl
    have e4 : gCsrI op v = gCsr v := by unfold gCsrI; rw [show hasCsr op = true from decide_eq_true (by omega)]; rfl
    have e5 : gImmI op v = gZ v := by
      unfold gImmI
      rw [hc]
      repeat rw [if_neg (by omega)]
      rw [if_pos (by omega)]
    rw [e1, e2, e3, e4, e5]
    exact guess_Ci op v l u hv0 hv1 w
  · have hc : clsI op = 10 := (cls_10 (by omega) (by omega)).symm
    have e1 : gRdI op v = 0 := by unfold gRdI; rw [show hasRd op = false from decide_eq_false (by omega)]; rfl
    have e2 : gRs1I op v = 0 := by unfold gRs1I; rw [show hasRs1 op = false from decide_eq_false (by omega)]; rfl
    have e3 : gRs2I op v = 0 := by unfold gRs2I; rw [show hasRs2 op = false from decide_eq_false (by omega)]; rfl
    have e4 : gCsrI op v = 0 := by unfold gCsrI; rw [show hasCsr op = false from decide_eq_false (by omega)]; rfl
    have e5 : gImmI op v = 0 := by
      unfold gImmI
      rw [hc]
      repeat rw [if_neg (by omega)]
    rw [e1, e2, e3, e4, e5]
    exact guess_M op v l u hv0 hv1 w
  · have hc : clsI op = 11 := (cls_11 (by omega) (by omega)).symm
    have e1 : gRdI op v = 0 := by unfold gRdI; rw [show hasRd op = false from decide_eq_false (by omega)]; rfl
    have e2 : gRs1I op v = gRs1 v := by unfold gRs1I; rw [show hasRs1 op = true from decide_eq_true (by omega)]; rfl
    have e3 : gRs2I op v = gRs2 v := by unfold gRs2I; rw [show hasRs2 op = true from decide_eq_true (by omega)]; rfl
    have e4 : gCsrI op v = 0 := by unfold gCsrI; rw [show hasCsr op = false from decide_eq_false (by omega)]; rfl
    have e5 : gImmI op v = 0 := by
      unfold gImmI
      rw [hc]
      repeat rw [if_neg (by omega)]
    rw [e1, e2, e3, e4, e5]
    exact guess_V op v l u hv0 hv1 w
  · have hc : clsI op = 12 := (cls_12 (by omega) (by omega)).symm
    have e1 : gRdI op v = gRd v := by unfold gRdI; rw [show hasRd op = true from decide_eq_true (by omega)]; rfl
    have e2 : gRs1I op v = gRs1 v := by unfold gRs1I; rw [show hasRs1 op = true from decide_eq_true (by omega)]; rfl
    have e3 : gRs2I op v = 0 := by unfold gRs2I; rw [show hasRs2 op = false from decide_eq_false (by omega)]; rfl
    have e4 : gCsrI op v = 0 := by unfold gCsrI; rw [show hasCsr op = false from decide_eq_false (by omega)]; rfl
    have e5 : gImmI op v = 0 := by
      unfold gImmI
      rw [hc]
      repeat rw [if_neg (by omega)]
    rw [e1, e2, e3, e4, e5]
    exact guess_G op v l u hv0 hv1 w
  · have hc : clsI op = 12 := (cls_12 (by omega) (by omega)).symm
    have e1 : gRdI op v = 0 := by unfold gRdI; rw [show hasRd op = false from decide_eq_false (by omega)]; rfl
    have e2 : gRs1I op v = gRs1 v := by unfold gRs1I; rw [show hasRs1 op = true from decide_eq_true (by omega)]; rfl
    have e3 : gRs2I op v = gRs2 v := by unfold gRs2I; rw [show hasRs2 op = true from decide_eq_true (by omega)]; rfl
    have e4 : gCsrI op v = 0 := by unfold gCsrI; rw [show hasCsr op = false from decide_eq_false (by omega)]; rfl
    have e5 : gImmI op v = 0 := by
      unfold gImmI
      rw [hc]
      repeat rw [if_neg (by omega)]
    rw [e1, e2, e3, e4, e5]
    exact guess_Gs op v l u hv0 hv1 w
theorem guess_from {W w : World} (hg : Grown W w) (op v : Int) (h0 : 1 ≤ op) (h1 : op ≤ 69) (hv0 : 0 ≤ v) (hv1 : v < 4294967296) :
    Calls Tryd.prog 21 #[.int .i64 op, .int .u32 v] w fun e w' => e = .returned (.agg #[.int .i64 op, .int .i64 (gRdI op v), .int .i64 (gRs1I op v), .int .i64 (gRs2I op v), .int .i64 (gImmI op v), .int .i64 (gCsrI op v)]) ∧ Grown W w' :=
  (guess_any op v h0 h1 hv0 hv1 w).mono fun _ _ h => ⟨h.1, Grown.trans' hg h.2⟩
end Go.Proofs.YtbcmklojfmenjaaDoor
