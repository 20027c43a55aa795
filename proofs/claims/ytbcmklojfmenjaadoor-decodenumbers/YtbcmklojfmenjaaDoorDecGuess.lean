/-
  What package decode's read answers of what is left of a word is what the document's words of the operation say.
-/
import Derived.Test.YtbcmklojfmenjaaDoorDecRest
import Derived.Test.YtbcmklojfmenjaaDoorDecRead
namespace Go.Proofs.YtbcmklojfmenjaaDoor
open Go.RowKit
theorem read_at_U (op v r : Int) (h0 : 1 ≤ op) (h1 : op ≤ 2) (hv0 : 0 ≤ v) (hv1 : v < 4294967296) (hr : r = bits .andNot .u32 v (tlI op)) (w : World) (hT : TabI w) :
    Calls Tryd.prog 18 #[.int .i64 op, .int .u64 r] w fun e w' => e = .returned (.agg #[.int .i64 op, .int .i64 (gRdI op v), .int .i64 (gRs1I op v), .int .i64 (gRs2I op v), .int .i64 (gImmI op v), .int .i64 (gCsrI op v)]) ∧ Grown w w' := by
  have hc : clsI op = 1 := (cls_1 (by omega) (by omega)).symm
  have hf : fmtI op = 85 := by
    have := op_cases (p := fun op => 1 ≤ op → op ≤ 2 → fmtI op = 85) (by decide +kernel) (fun op h a c => by omega) op
    exact this h0 h1
  have e1 : gRdI op v = gRd v := by unfold gRdI; rw [show hasRd op = true from decide_eq_true (by omega)]; rfl
  have e2 : gRs1I op v = 0 := by unfold gRs1I; rw [show hasRs1 op = false from decide_eq_false (by omega)]; rfl
  have e3 : gRs2I op v = 0 := by unfold gRs2I; rw [show hasRs2 op = false from decide_eq_false (by omega)]; rfl
  have e4 : gCsrI op v = 0 := by unfold gCsrI; rw [show hasCsr op = false from decide_eq_false (by omega)]; rfl
  have e5 : gImmI op v = gU v := by
    unfold gImmI
    rw [hc]
    repeat rw [if_neg (by omega)]
    rw [if_pos (by omega)]
  obtain ⟨⟨r0, r1⟩, q0, q1⟩ := rest_U h0 h1 hv0 hv1 hr
  rw [e1, e2, e3, e4, e5]
  have h := read_U op r hf r0 r1 w hT
  rw [q0, q1] at h
  exact h
theorem read_at_J (op v r : Int) (h0 : 3 ≤ op) (h1 : op ≤ 3) (hv0 : 0 ≤ v) (hv1 : v < 4294967296) (hr : r = bits .andNot .u32 v (tlI op)) (w : World) (hT : TabI w) :
    Calls Tryd.prog 18 #[.int .i64 op, .int .u64 r] w fun e w' => e = .returned (.agg #[.int .i64 op, .int .i64 (gRdI op v), .int .i64 (gRs1I op v), .int .i64 (gRs2I op v), .int .i64 (gImmI op v), .int .i64 (gCsrI op v)]) ∧ Grown w w' := by
  have hc : clsI op = 1 := (cls_1 (by omega) (by omega)).symm
  have hf : fmtI op = 74 := by
    have := op_cases (p := fun op => 3 ≤ op → op ≤ 3 → fmtI op = 74) (by decide +kernel) (fun op h a c => by omega) op
    exact this h0 h1
  have e1 : gRdI op v = gRd v := by unfold gRdI; rw [show hasRd op = true from decide_eq_true (by omega)]; rfl
  have e2 : gRs1I op v = 0 := by unfold gRs1I; rw [show hasRs1 op = false from decide_eq_false (by omega)]; rfl
  have e3 : gRs2I op v = 0 := by unfold gRs2I; rw [show hasRs2 op = false from decide_eq_false (by omega)]; rfl
  have e4 : gCsrI op v = 0 := by unfold gCsrI; rw [show hasCsr op = false from decide_eq_false (by omega)]; rfl
  have e5 : gImmI op v = gJ v := by
    unfold gImmI
    rw [hc]
    repeat rw [if_neg (by omega)]
    rw [if_pos (by omega)]
  obtain ⟨⟨r0, r1⟩, q0, q1⟩ := rest_J h0 h1 hv0 hv1 hr
  rw [e1, e2, e3, e4, e5]
  have h := read_J op r hf r0 r1 w hT
  rw [q0, q1] at h
  exact h
theorem read_at_Jr (op v r : Int) (h0 : 4 ≤ op) (h1 : op ≤ 4) (hv0 : 0 ≤ v) (hv1 : v < 4294967296) (hr : r = bits .andNot .u32 v (tlI op)) (w : World) (hT : TabI w) :
    Calls Tryd.prog 18 #[.int .i64 op, .int .u64 r] w fun e w' => e = .returned (.agg #[.int .i64 op, .int .i64 (gRdI op v), .int .i64 (gRs1I op v), .int .i64 (gRs2I op v), .int .i64 (gImmI op v), .int .i64 (gCsrI op v)]) ∧ Grown w w' := by
  have hc : clsI op = 1 := (cls_1 (by omega) (by omega)).symm
  have hf : fmtI op = 73 := by
    have := op_cases (p := fun op => 4 ≤ op → op ≤ 4 → fmtI op = 73) (by decide +kernel) (fun op h a c => by omega) op
    exact this h0 h1
  have e1 : gRdI op v = gRd v := by unfold gRdI; rw [show hasRd op = true from decide_eq_true (by omega)]; rfl
  have e2 : gRs1I op v = gRs1 v := by unfold gRs1I; rw [show hasRs1 op = true from decide_eq_true (by omega)]; rfl
  have e3 : gRs2I op v = 0 := by unfold gRs2I; rw [show hasRs2 op = false from decide_eq_false (by omega)]; rfl
  have e4 : gCsrI op v = 0 := by unfold gCsrI; rw [show hasCsr op = false from decide_eq_false (by omega)]; rfl
  have e5 : gImmI op v = gI v := by
    unfold gImmI
    rw [hc]
    repeat rw [if_neg (by omega)]
    rw [if_pos (by omega)]
  obtain ⟨⟨r0, r1⟩, q0, q1, q2⟩ := rest_Jr h0 h1 hv0 hv1 hr
  rw [e1, e2, e3, e4, e5]
  have h := read_I op r hf (by omega) r0 r1 w hT
  rw [q0, q1, q2] at h
  exact h
theorem read_at_B (op v r : Int) (h0 : 5 ≤ op) (h1 : op ≤ 10) (hv0 : 0 ≤ v) (hv1 : v < 4294967296) (hr : r = bits .andNot .u32 v (tlI op)) (w : World) (hT : TabI w) :
    Calls Tryd.prog 18 #[.int .i64 op, .int .u64 r] w fun e w' => e = .returned (.agg #[.int .i64 op, .int .i64 (gRdI op v), .int .i64 (gRs1I op v), .int .i64 (gRs2I op v), .int .i64 (gImmI op v), .int .i64 (gCsrI op v)]) ∧ Grown w w' := by
  have hc : clsI op = 2 := (cls_2 (by omega) (by omega)).symm
  have hf : fmtI op = 66 := by
    have := op_cases (p := fun op => 5 ≤ op → op ≤ 10 → fmtI op = 66) (by decide +kernel) (fun op h a c => by omega) op
    exact this h0 h1
  have e1 : gRdI op v = 0 := by unfold gRdI; rw [show hasRd op = false from decide_eq_false (by omega)]; rfl
  have e2 : gRs1I op v = gRs1 v := by unfold gRs1I; rw [show hasRs1 op = true from decide_eq_true (by omega)]; rfl
  have e3 : gRs2I op v = gRs2 v := by unfold gRs2I; rw [show hasRs2 op = true from decide_eq_true (by omega)]; rfl
  have e4 : gCsrI op v = 0 := by unfold gCsrI; rw [show hasCsr op = false from decide_eq_false (by omega)]; rfl
  have e5 : gImmI op v = gB v := by
    unfold gImmI
    rw [hc]
    repeat rw [if_neg (by omega)]
    rw [if_pos (by omega)]
  obtain ⟨⟨r0, r1⟩, q0, q1, q2⟩ := rest_B h0 h1 hv0 hv1 hr
  rw [e1, e2, e3, e4, e5]
  have h := read_B op r hf r0 r1 w hT
  rw [q0, q1, q2] at h
  exact h
theorem read_at_L (op v r : Int) (h0 : 11 ≤ op) (h1 : op ≤ 17) (hv0 : 0 ≤ v) (hv1 : v < 4294967296) (hr : r = bits .andNot .u32 v (tlI op)) (w : World) (hT : TabI w) :
    Calls Tryd.prog 18 #[.int .i64 op, .int .u64 r] w fun e w' => e = .returned (.agg #[.int .i64 op, .int .i64 (gRdI op v), .int .i64 (gRs1I op v), .int .i64 (gRs2I op v), .int .i64 (gImmI op v), .int .i64 (gCsrI op v)]) ∧ Grown w w' := by
  have hc : clsI op = 3 := (cls_3 (by omega) (by omega)).symm
  have hf : fmtI op = 73 := by
    have := op_cases (p := fun op => 11 ≤ op → op ≤ 17 → fmtI op = 73) (by decide +kernel) (fun op h a c => by omega) op
    exact this h0 h1
  have e1 : gRdI op v = gRd v := by unfold gRdI; rw [show hasRd op = true from decide_eq_true (by omega)]; rfl
  have e2 : gRs1I op v = gRs1 v := by unfold gRs1I; rw [show hasRs1 op = true from decide_eq_true (by omega)]; rfl
  have e3 : gRs2I op v = 0 := by unfold gRs2I; rw [show hasRs2 op = false from decide_eq_false (by omega)]; rfl
  have e4 : gCsrI op v = 0 := by unfold gCsrI; rw [show hasCsr op = false from decide_eq_false (by omega)]; rfl
  have e5 : gImmI op v = gI v := by
    unfold gImmI
    rw [hc]
    repeat rw [if_neg (by omega)]
    rw [if_pos (by omega)]
  obtain ⟨⟨r0, r1⟩, q0, q1, q2⟩ := rest_L h0 h1 hv0 hv1 hr
  rw [e1, e2, e3, e4, e5]
  have h := read_I op r hf (by omega) r0 r1 w hT
  rw [q0, q1, q2] at h
  exact h
theorem read_at_S (op v r : Int) (h0 : 18 ≤ op) (h1 : op ≤ 21) (hv0 : 0 ≤ v) (hv1 : v < 4294967296) (hr : r = bits .andNot .u32 v (tlI op)) (w : World) (hT : TabI w) :
    Calls Tryd.prog 18 #[.int .i64 op, .int .u64 r] w fun e w' => e = .returned (.agg #[.int .i64 op, .int .i64 (gRdI op v), .int .i64 (gRs1I op v), .int .i64 (gRs2I op v), .int .i64 (gImmI op v), .int .i64 (gCsrI op v)]) ∧ Grown w w' := by
  have hc : clsI op = 4 := (cls_4 (by omega) (by omega)).symm
  have hf : fmtI op = 83 := by
    have := op_cases (p := fun op => 18 ≤ op → op ≤ 21 → fmtI op = 83) (by decide +kernel) (fun op h a c => by omega) op
    exact this h0 h1
  have e1 : gRdI op v = 0 := by unfold gRdI; rw [show hasRd op = false from decide_eq_false (by omega)]; rfl
  have e2 : gRs1I op v = gRs1 v := by unfold gRs1I; rw [show hasRs1 op = true from decide_eq_true (by omega)]; rfl
  have e3 : gRs2I op v = gRs2 v := by unfold gRs2I; rw [show hasRs2 op = true from decide_eq_true (by omega)]; rfl
  have e4 : gCsrI op v = 0 := by unfold gCsrI; rw [show hasCsr op = false from decide_eq_false (by omega)]; rfl
  have e5 : gImmI op v = gS v := by
    unfold gImmI
    rw [hc]
    repeat rw [if_neg (by omega)]
    rw [if_pos (by omega)]
  obtain ⟨⟨r0, r1⟩, q0, q1, q2⟩ := rest_S h0 h1 hv0 hv1 hr
  rw [e1, e2, e3, e4, e5]
  have h := read_S op r hf r0 r1 w hT
  rw [q0, q1, q2] at h
  exact h
theorem read_at_I (op v r : Int) (h0 : 22 ≤ op) (h1 : op ≤ 27) (hv0 : 0 ≤ v) (hv1 : v < 4294967296) (hr : r = bits .andNot .u32 v (tlI op)) (w : World) (hT : TabI w) :
    Calls Tryd.prog 18 #[.int .i64 op, .int .u64 r] w fun e w' => e = .returned (.agg #[.int .i64 op, .int .i64 (gRdI op v), .int .i64 (gRs1I op v), .int .i64 (gRs2I op v), .int .i64 (gImmI op v), .int .i64 (gCsrI op v)]) ∧ Grown w w' := by
  have hc : clsI op = 5 := (cls_5 (by omega) (by omega)).symm
  have hf : fmtI op = 73 := by
    have := op_cases (p := fun op => 22 ≤ op → op ≤ 27 → fmtI op = 73) (by decide +kernel) (fun op h a c => by omega) op
    exact this h0 h1
  have e1 : gRdI op v = gRd v := by unfold gRdI; rw [show hasRd op = true from decide_eq_true (by omega)]; rfl
  have e2 : gRs1I op v = gRs1 v := by unfold gRs1I; rw [show hasRs1 op = true from decide_eq_true (by omega)]; rfl
  have e3 : gRs2I op v = 0 := by unfold gRs2I; rw [show hasRs2 op = false from decide_eq_false (by omega)]; rfl
  have e4 : gCsrI op v = 0 := by unfold gCsrI; rw [show hasCsr op = false from decide_eq_false (by omega)]; rfl
  have e5 : gImmI op v = gI v := by
    unfold gImmI
    rw [hc]
    repeat rw [if_neg (by omega)]
    rw [if_pos (by omega)]
  obtain ⟨⟨r0, r1⟩, q0, q1, q2⟩ := rest_I h0 h1 hv0 hv1 hr
  rw [e1, e2, e3, e4, e5]
  have h := read_I op r hf (by omega) r0 r1 w hT
  rw [q0, q1, q2] at h
  exact h
theorem read_at_H (op v r : Int) (h0 : 28 ≤ op) (h1 : op ≤ 30) (hv0 : 0 ≤ v) (hv1 : v < 4294967296) (hr : r = bits .andNot .u32 v (tlI op)) (w : World) (hT : TabI w) :
    Calls Tryd.prog 18 #[.int .i64 op, .int .u64 r] w fun e w' => e = .returned (.agg #[.int .i64 op, .int .i64 (gRdI op v), .int .i64 (gRs1I op v), .int .i64 (gRs2I op v), .int .i64 (gImmI op v), .int .i64 (gCsrI op v)]) ∧ Grown w w' := by
  have hc : clsI op = 5 := (cls_5 (by omega) (by omega)).symm
  have hf : fmtI op = 73 := by
    have := op_cases (p := fun op => 28 ≤ op → op ≤ 30 → fmtI op = 73) (by decide +kernel) (fun op h a c => by omega) op
    exact this h0 h1
  have e1 : gRdI op v = gRd v := by unfold gRdI; rw [show hasRd op = true from decide_eq_true (by omega)]; rfl
  have e2 : gRs1I op v = gRs1 v := by unfold gRs1I; rw [show hasRs1 op = true from decide_eq_true (by omega)]; rfl
  have e3 : gRs2I op v = 0 := by unfold gRs2I; rw [show hasRs2 op = false from decide_eq_false (by omega)]; rfl
  have e4 : gCsrI op v = 0 := by unfold gCsrI; rw [show hasCsr op = false from decide_eq_false (by omega)]; rfl
  have e5 : gImmI op v = g6 v := by
    unfold gImmI
    rw [hc]
    repeat rw [if_neg (by omega)]
    rw [if_pos (by omega)]
  obtain ⟨⟨r0, r1⟩, q0, q1, q2⟩ := rest_H h0 h1 hv0 hv1 hr
  rw [e1, e2, e3, e4, e5]
  have h := read_I op r hf (by omega) r0 r1 w hT
  rw [q0, q1, q2] at h
  exact h
theorem read_at_Iw (op v r : Int) (h0 : 31 ≤ op) (h1 : op ≤ 31) (hv0 : 0 ≤ v) (hv1 : v < 4294967296) (hr : r = bits .andNot .u32 v (tlI op)) (w : World) (hT : TabI w) :
    Calls Tryd.prog 18 #[.int .i64 op, .int .u64 r] w fun e w' => e = .returned (.agg #[.int .i64 op, .int .i64 (gRdI op v), .int .i64 (gRs1I op v), .int .i64 (gRs2I op v), .int .i64 (gImmI op v), .int .i64 (gCsrI op v)]) ∧ Grown w w' := by
  have hc : clsI op = 5 := (cls_5 (by omega) (by omega)).symm
  have hf : fmtI op = 73 := by
    have := op_cases (p := fun op => 31 ≤ op → op ≤ 31 → fmtI op = 73) (by decide +kernel) (fun op h a c => by omega) op
    exact this h0 h1
  have e1 : gRdI op v = gRd v := by unfold gRdI; rw [show hasRd op = true from decide_eq_true (by omega)]; rfl
  have e2 : gRs1I op v = gRs1 v := by unfold gRs1I; rw [show hasRs1 op = true from decide_eq_true (by omega)]; rfl
  have e3 : gRs2I op v = 0 := by unfold gRs2I; rw [show hasRs2 op = false from decide_eq_false (by omega)]; rfl
  have e4 : gCsrI op v = 0 := by unfold gCsrI; rw [show hasCsr op = false from decide_eq_false (by omega)]; rfl
  have e5 : gImmI op v = gI v := by
    unfold gImmI
    rw [hc]
    repeat rw [if_neg (by omega)]
    rw [if_pos (by omega)]
  obtain ⟨⟨r0, r1⟩, q0, q1, q2⟩ := rest_Iw h0 h1 hv0 hv1 hr
  rw [e1, e2, e3, e4, e5]
  have h := read_I op r hf (by omega) r0 r1 w hT
  rw [q0, q1, q2] at h
  exact h
theorem read_at_Hw (op v r : Int) (h0 : 32 ≤ op) (h1 : op ≤ 34) (hv0 : 0 ≤ v) (hv1 : v < 4294967296) (hr : r = bits .andNot .u32 v (tlI op)) (w : World) (hT : TabI w) :
    Calls Tryd.prog 18 #[.int .i64 op, .int .u64 r] w fun e w' => e = .returned (.agg #[.int .i64 op, .int .i64 (gRdI op v), .int .i64 (gRs1I op v), .int .i64 (gRs2I op v), .int .i64 (gImmI op v), .int .i64 (gCsrI op v)]) ∧ Grown w w' := by
  have hc : clsI op = 5 := (cls_5 (by omega) (by omega)).symm
  have hf : fmtI op = 73 := by
    have := op_cases (p := fun op => 32 ≤ op → op ≤ 34 → fmtI op = 73) (by decide +kernel) (fun op h a c => by omega) op
    exact this h0 h1
  have e1 : gRdI op v = gRd v := by unfold gRdI; rw [show hasRd op = true from decide_eq_true (by omega)]; rfl
  have e2 : gRs1I op v = gRs1 v := by unfold gRs1I; rw [show hasRs1 op = true from decide_eq_true (by omega)]; rfl
  have e3 : gRs2I op v = 0 := by unfold gRs2I; rw [show hasRs2 op = false from decide_eq_false (by omega)]; rfl
  have e4 : gCsrI op v = 0 := by unfold gCsrI; rw [show hasCsr op = false from decide_eq_false (by omega)]; rfl
  have e5 : gImmI op v = g5 v := by
    unfold gImmI
    rw [hc]
    repeat rw [if_neg (by omega)]
    rw [if_pos (by omega)]
  obtain ⟨⟨r0, r1⟩, q0, q1, q2⟩ := rest_Hw h0 h1 hv0 hv1 hr
  rw [e1, e2, e3, e4, e5]
  have h := read_I op r hf (by omega) r0 r1 w hT
  rw [q0, q1, q2] at h
  exact h
theorem read_at_R (op v r : Int) (h0 : 35 ≤ op) (h1 : op ≤ 49) (hv0 : 0 ≤ v) (hv1 : v < 4294967296) (hr : r = bits .andNot .u32 v (tlI op)) (w : World) (hT : TabI w) :
    Calls Tryd.prog 18 #[.int .i64 op, .int .u64 r] w fun e w' => e = .returned (.agg #[.int .i64 op, .int .i64 (gRdI op v), .int .i64 (gRs1I op v), .int .i64 (gRs2I op v), .int .i64 (gImmI op v), .int .i64 (gCsrI op v)]) ∧ Grown w w' := by
  have hc : clsI op = 6 := (cls_6 (by omega) (by omega)).symm
  have hf : fmtI op = 82 := by
    have := op_cases (p := fun op => 35 ≤ op → op ≤ 49 → fmtI op = 82) (by decide +kernel) (fun op h a c => by omega) op
    exact this h0 h1
  have e1 : gRdI op v = gRd v := by unfold gRdI; rw [show hasRd op = true from decide_eq_true (by omega)]; rfl
  have e2 : gRs1I op v = gRs1 v := by unfold gRs1I; rw [show hasRs1 op = true from decide_eq_true (by omega)]; rfl
  have e3 : gRs2I op v = gRs2 v := by unfold gRs2I; rw [show hasRs2 op = true from decide_eq_true (by omega)]; rfl
  have e4 : gCsrI op v = 0 := by unfold gCsrI; rw [show hasCsr op = false from decide_eq_false (by omega)]; rfl
  have e5 : gImmI op v = 0 := by
    unfold gImmI
    rw [hc]
    repeat rw [if_neg (by omega)]
  obtain ⟨⟨r0, r1⟩, q0, q1, q2⟩ := rest_R h0 h1 hv0 hv1 hr
  rw [e1, e2, e3, e4, e5]
  have h := read_R op r hf r0 r1 w hT
  rw [q0, q1, q2] at h
  exact h
theorem read_at_C (op v r : Int) (h0 : 54 ≤ op) (h1 : op ≤ 56) (hv0 : 0 ≤ v) (hv1 : v < 4294967296) (hr : r = bits .andNot .u32 v (tlI op)) (w : World) (hT : TabI w) :
    Calls Tryd.prog 18 #[.int .i64 op, .int .u64 r] w fun e w' => e = .returned (.agg #[.int .i64 op, .int .i64 (gRdI op v), .int .i64 (gRs1I op v), .int .i64 (gRs2I op v), .int .i64 (gImmI op v), .int .i64 (gCsrI op v)]) ∧ Grown w w' := by
  have hc : clsI op = 9 := (cls_9 (by omega) (by omega)).symm
  have hf : fmtI op = 73 := by
    have := op_cases (p := fun op => 54 ≤ op → op ≤ 56 → fmtI op = 73) (by decide +kernel) (fun op h a c => by omega) op
    exact this h0 h1
  have e1 : gRdI op v = gRd v := by unfold gRdI; rw [show hasRd op = true from decide_eq_true (by omega)]; rfl
  have e2 : gRs1I op v = gRs1 v := by unfold gRs1I; rw [show hasRs1 op = true from decide_eq_true (by omega)]; rfl
  have e3 : gRs2I op v = 0 := by unfold gRs2I; rw [show hasRs2 op = false from decide_eq_false (by omega)]; rfl
  have e4 : gCsrI op v = gCsr v := by unfold gCsrI; rw [show hasCsr op = true from decide_eq_true (by omega)]; rfl
  have e5 : gImmI op v = 0 := by
    unfold gImmI
    rw [hc]
    repeat rw [if_neg (by omega)]
  obtain ⟨⟨r0, r1⟩, q0, q1, q2⟩ := rest_C h0 h1 hv0 hv1 hr
  rw [e1, e2, e3, e4, e5]
  have h := read_C op r hf (by omega) r0 r1 w hT
  rw [q0, q1, q2] at h
  exact h
theorem read_at_Ci (op v r : Int) (h0 : 57 ≤ op) (h1 : op ≤ 59) (hv0 : 0 ≤ v) (hv1 : v < 4294967296) (hr : r = bits .andNot .u32 v (tlI op)) (w : World) (hT : TabI w) :
    Calls Tryd.prog 18 #[.int .i64 op, .int .u64 r] w fun e w' => e = .returned (.agg #[.int .i64 op, .int .i64 (gRdI op v), .int .i64 (gRs1I op v), .int .i64 (gRs2I op v), .int .i64 (gImmI op v), .int .i64 (gCsrI op v)]) ∧ Grown w w' := by
  have hc : clsI op = 9 := (cls_9 (by omega) (by omega)).symm
  have hf : fmtI op = 73 := by
    have := op_cases (p := fun op => 57 ≤ op → op ≤ 59 → fmtI op = 73) (by decide +kernel) (fun op h a c => by omega) op
    exact this h0 h1
  have e1 : gRdI op v = gRd v := by unfold gRdI; rw [show hasRd op = true from decide_eq_true (by omega)]; rfl
  have e2 : gRs1I op v = 0 := by unfold gRs1I; rw [show hasRs1 op = false from decide_eq_false (by omega)]; rfl
  have e3 : gRs2I op v = 0 := by unfold gRs2I; rw [show hasRs2 op = false from decide_eq_false (by omega)]; rfl
  have e4 : gCsrI op v = gCsr v := by unfold gCsrI; rw [show hasCsr op = true from decide_eq_true (by omega)]; rfl
  have e5 : gImmI op v = gZ v := by
    unfold gImmI
    rw [hc]
    repeat rw [if_neg (by omega)]
    rw [if_pos (by omega)]
  obtain ⟨⟨r0, r1⟩, q0, q1, q2⟩ := rest_Ci h0 h1 hv0 hv1 hr
  rw [e1, e2, e3, e4, e5]
  have h := read_Ci op r hf (by omega) r0 r1 w hT
  rw [q0, q1, q2] at h
  exact h
theorem read_at_V (op v r : Int) (h0 : 63 ≤ op) (h1 : op ≤ 65) (hv0 : 0 ≤ v) (hv1 : v < 4294967296) (hr : r = bits .andNot .u32 v (tlI op)) (w : World) (hT : TabI w) :
    Calls Tryd.prog 18 #[.int .i64 op, .int .u64 r] w fun e w' => e = .returned (.agg #[.int .i64 op, .int .i64 (gRdI op v), .int .i64 (gRs1I op v), .int .i64 (gRs2I op v), .int .i64 (gImmI op v), .int .i64 (gCsrI op v)]) ∧ Grown w w' := by
  have hc : clsI op = 11 := (cls_11 (by omega) (by omega)).symm
  have hf : fmtI op = 82 := by
    have := op_cases (p := fun op => 63 ≤ op → op ≤ 65 → fmtI op = 82) (by decide +kernel) (fun op h a c => by omega) op
    exact this h0 h1
  have e1 : gRdI op v = 0 := by unfold gRdI; rw [show hasRd op = false from decide_eq_false (by omega)]; rfl
  have e2 : gRs1I op v = gRs1 v := by unfold gRs1I; rw [show hasRs1 op = true from decide_eq_true (by omega)]; rfl
  have e3 : gRs2I op v = gRs2 v := by unfold gRs2I; rw [show hasRs2 op = true from decide_eq_true (by omega)]; rfl
  have e4 : gCsrI op v = 0 := by unfold gCsrI; rw [show hasCsr op = false from decide_eq_false (by omega)]; rfl
  have e5 : gImmI op v = 0 := by
    unfold gImmI
    rw [hc]
    repeat rw [if_neg (by omega)]
  obtain ⟨⟨r0, r1⟩, q0, q1, q2⟩ := rest_V h0 h1 hv0 hv1 hr
  rw [e1, e2, e3, e4, e5]
  have h := read_R op r hf r0 r1 w hT
  rw [q0, q1, q2] at h
  exact h
theorem read_at_G (op v r : Int) (h0 : 66 ≤ op) (h1 : op ≤ 67) (hv0 : 0 ≤ v) (hv1 : v < 4294967296) (hr : r = bits .andNot .u32 v (tlI op)) (w : World) (hT : TabI w) :
    Calls Tryd.prog 18 #[.int .i64 op, .int .u64 r] w fun e w' => e = .returned (.agg #[.int .i64 op, .int .i64 (gRdI op v), .int .i64 (gRs1I op v), .int .i64 (gRs2I op v), .int .i64 (gImmI op v), .int .i64 (gCsrI op v)]) ∧ Grown w w' := by
  have hc : clsI op = 12 := (cls_12 (by omega) (by omega)).symm
  have hf : fmtI op = 82 := by
    have := op_cases (p := fun op => 66 ≤ op → op ≤ 67 → fmtI op = 82) (by decide +kernel) (fun op h a c => by omega) op
    exact this h0 h1
  have e1 : gRdI op v = gRd v := by unfold gRdI; rw [show hasRd op = true from decide_eq_true (by omega)]; rfl
  have e2 : gRs1I op v = gRs1 v := by unfold gRs1I; rw [show hasRs1 op = true from decide_eq_true (by omega)]; rfl
  have e3 : gRs2I op v = 0 := by unfold gRs2I; rw [show hasRs2 op = false from decide_eq_false (by omega)]; rfl
  have e4 : gCsrI op v = 0 := by unfold gCsrI; rw [show hasCsr op = false from decide_eq_false (by omega)]; rfl
  have e5 : gImmI op v = 0 := by
    unfold gImmI
    rw [hc]
    repeat rw [if_neg (by omega)]
  obtain ⟨⟨r0, r1⟩, q0, q1, q2⟩ := rest_G h0 h1 hv0 hv1 hr
  rw [e1, e2, e3, e4, e5]
  have h := read_R op r hf r0 r1 w hT
  rw [q0, q1, q2] at h
  exact h
theorem read_at_X (op v r : Int) (h0 : 68 ≤ op) (h1 : op ≤ 68) (hv0 : 0 ≤ v) (hv1 : v < 4294967296) (hr : r = bits .andNot .u32 v (tlI op)) (w : World) (hT : TabI w) :
    Calls Tryd.prog 18 #[.int .i64 op, .int .u64 r] w fun e w' => e = .returned (.agg #[.int .i64 op, .int .i64 (gRdI op v), .int .i64 (gRs1I op v), .int .i64 (gRs2I op v), .int .i64 (gImmI op v), .int .i64 (gCsrI op v)]) ∧ Grown w w' := by
  have hc : clsI op = 12 := (cls_12 (by omega) (by omega)).symm
  have hf : fmtI op = 82 := by
    have := op_cases (p := fun op => 68 ≤ op → op ≤ 68 → fmtI op = 82) (by decide +kernel) (fun op h a c => by omega) op
    exact this h0 h1
  have e1 : gRdI op v = gRd v := by unfold gRdI; rw [show hasRd op = true from decide_eq_true (by omega)]; rfl
  have e2 : gRs1I op v = gRs1 v := by unfold gRs1I; rw [show hasRs1 op = true from decide_eq_true (by omega)]; rfl
  have e3 : gRs2I op v = 0 := by unfold gRs2I; rw [show hasRs2 op = false from decide_eq_false (by omega)]; rfl
  have e4 : gCsrI op v = 0 := by unfold gCsrI; rw [show hasCsr op = false from decide_eq_false (by omega)]; rfl
  have e5 : gImmI op v = 0 := by
    unfold gImmI
    rw [hc]
    repeat rw [if_neg (by omega)]
  obtain ⟨⟨r0, r1⟩, q0, q1, q2⟩ := rest_X h0 h1 hv0 hv1 hr
  rw [e1, e2, e3, e4, e5]
  have h := read_R op r hf r0 r1 w hT
  rw [q0, q1, q2] at h
  exact h
theorem read_at_Gs (op v r : Int) (h0 : 69 ≤ op) (h1 : op ≤ 69) (hv0 : 0 ≤ v) (hv1 : v < 4294967296) (hr : r = bits .andNot .u32 v (tlI op)) (w : World) (hT : TabI w) :
    Calls Tryd.prog 18 #[.int .i64 op, .int .u64 r] w fun e w' => e = .returned (.agg #[.int .i64 op, .int .i64 (gRdI op v), .int .i64 (gRs1I op v), .int .i64 (gRs2I op v), .int .i64 (gImmI op v), .int .i64 (gCsrI op v)]) ∧ Grown w w' := by
  have hc : clsI op = 12 := (cls_12 (by omega) (by omega)).symm
  have hf : fmtI op = 82 := by
    have := op_cases (p := fun op => 69 ≤ op → op ≤ 69 → fmtI op = 82) (by decide +kernel) (fun op h a c => by omega) op
    exact this h0 h1
  have e1 : gRdI op v = 0 := by unfold gRdI; rw [show hasRd op = false from decide_eq_false (by omega)]; rfl
  have e2 : gRs1I op v = gRs1 v := by unfold gRs1I; rw [show hasRs1 op = true from decide_eq_true (by omega)]; rfl
  have e3 : gRs2I op v = gRs2 v := by unfold gRs2I; rw [show hasRs2 op = true from decide_eq_true (by omega)]; rfl
  have e4 : gCsrI op v = 0 := by unfold gCsrI; rw [show hasCsr op = false from decide_eq_false (by omega)]; rfl
  have e5 : gImmI op v = 0 := by
    unfold gImmI
    rw [hc]
    repeat rw [if_neg (by omega)]
  obtain ⟨⟨r0, r1⟩, q0, q1, q2⟩ := rest_Gs h0 h1 hv0 hv1 hr
  rw [e1, e2, e3, e4, e5]
  have h := read_R op r hf r0 r1 w hT
  rw [q0, q1, q2] at h
  exact h
theorem read_at_F (op v r : Int) (h0 : 50 ≤ op) (h1 : op ≤ 51) (hv0 : 0 ≤ v) (hv1 : v < 4294967296) (hr : r = bits .andNot .u32 v (tlI op)) (w : World) (hT : TabI w) :
    Calls Tryd.prog 18 #[.int .i64 op, .int .u64 r] w fun e w' => e = .returned (.agg #[.int .i64 op, .int .i64 (gRdI op v), .int .i64 (gRs1I op v), .int .i64 (gRs2I op v), .int .i64 (gImmI op v), .int .i64 (gCsrI op v)]) ∧ Grown w w' := by
  have hc : clsI op = 7 := (cls_7 (by omega) (by omega)).symm
  have hf : fmtI op = 73 := by
    have := op_cases (p := fun op => 50 ≤ op → op ≤ 51 → fmtI op = 73) (by decide +kernel) (fun op h a c => by omega) op
    exact this h0 h1
  have e1 : gRdI op v = 0 := by unfold gRdI; rw [show hasRd op = false from decide_eq_false (by omega)]; rfl
  have e2 : gRs1I op v = 0 := by unfold gRs1I; rw [show hasRs1 op = false from decide_eq_false (by omega)]; rfl
  have e3 : gRs2I op v = 0 := by unfold gRs2I; rw [show hasRs2 op = false from decide_eq_false (by omega)]; rfl
  have e4 : gCsrI op v = 0 := by unfold gCsrI; rw [show hasCsr op = false from decide_eq_false (by omega)]; rfl
  have e5 : gImmI op v = 0 := by
    unfold gImmI
    rw [hc]
    repeat rw [if_neg (by omega)]
  obtain rfl := rest_fix (by omega) hv0 hv1 hr
  rw [e1, e2, e3, e4, e5]
  exact read_I op 0 hf (by omega) (by omega) (by omega) w hT
theorem read_at_E (op v r : Int) (h0 : 52 ≤ op) (h1 : op ≤ 53) (hv0 : 0 ≤ v) (hv1 : v < 4294967296) (hr : r = bits .andNot .u32 v (tlI op)) (w : World) (hT : TabI w) :
    Calls Tryd.prog 18 #[.int .i64 op, .int .u64 r] w fun e w' => e = .returned (.agg #[.int .i64 op, .int .i64 (gRdI op v), .int .i64 (gRs1I op v), .int .i64 (gRs2I op v), .int .i64 (gImmI op v), .int .i64 (gCsrI op v)]) ∧ Grown w w' := by
  have hc : clsI op = 8 := (cls_8 (by omega) (by omega)).symm
  have hf : fmtI op = 73 := by
    have := op_cases (p := fun op => 52 ≤ op → op ≤ 53 → fmtI op = 73) (by decide +kernel) (fun op h a c => by omega) op
    exact this h0 h1
  have e1 : gRdI op v = 0 := by unfold gRdI; rw [show hasRd op = false from decide_eq_false (by omega)]; rfl
  have e2 : gRs1I op v = 0 := by unfold gRs1I; rw [show hasRs1 op = false from decide_eq_false (by omega)]; rfl
  have e3 : gRs2I op v = 0 := by unfold gRs2I; rw [show hasRs2 op = false from decide_eq_false (by omega)]; rfl
  have e4 : gCsrI op v = 0 := by unfold gCsrI; rw [show hasCsr op = false from decide_eq_false (by omega)]; rfl
  have e5 : gImmI op v = 0 := by
    unfold gImmI
    rw [hc]
    repeat rw [if_neg (by omega)]
  obtain rfl := rest_fix (by omega) hv0 hv1 hr
  rw [e1, e2, e3, e4, e5]
  exact read_I op 0 hf (by omega) (by omega) (by omega) w hT
theorem read_at_M (op v r : Int) (h0 : 60 ≤ op) (h1 : op ≤ 62) (hv0 : 0 ≤ v) (hv1 : v < 4294967296) (hr : r = bits .andNot .u32 v (tlI op)) (w : World) (hT : TabI w) :
    Calls Tryd.prog 18 #[.int .i64 op, .int .u64 r] w fun e w' => e = .returned (.agg #[.int .i64 op, .int .i64 (gRdI op v), .int .i64 (gRs1I op v), .int .i64 (gRs2I op v), .int .i64 (gImmI op v), .int .i64 (gCsrI op v)]) ∧ Grown w w' := by
  have hc : clsI op = 10 := (cls_10 (by omega) (by omega)).symm
  have hf : fmtI op = 73 := by
    have := op_cases (p := fun op => 60 ≤ op → op ≤ 62 → fmtI op = 73) (by decide +kernel) (fun op h a c => by omega) op
    exact this h0 h1
  have e1 : gRdI op v = 0 := by unfold gRdI; rw [show hasRd op = false from decide_eq_false (by omega)]; rfl
  have e2 : gRs1I op v = 0 := by unfold gRs1I; rw [show hasRs1 op = false from decide_eq_false (by omega)]; rfl
  have e3 : gRs2I op v = 0 := by unfold gRs2I; rw [show hasRs2 op = false from decide_eq_false (by omega)]; rfl
  have e4 : gCsrI op v = 0 := by unfold gCsrI; rw [show hasCsr op = false from decide_eq_false (by omega)]; rfl
  have e5 : gImmI op v = 0 := by
    unfold gImmI
    rw [hc]
    repeat rw [if_neg (by omega)]
  obtain rfl := rest_fix (by omega) hv0 hv1 hr
  rw [e1, e2, e3, e4, e5]
  exact read_I op 0 hf (by omega) (by omega) (by omega) w hT
theorem read_at (op v r : Int) (h0 : 1 ≤ op) (h1 : op < 70) (hv0 : 0 ≤ v) (hv1 : v < 4294967296) (hr : r = bits .andNot .u32 v (tlI op)) (w : World) (hT : TabI w) :
    Calls Tryd.prog 18 #[.int .i64 op, .int .u64 r] w fun e w' => e = .returned (.agg #[.int .i64 op, .int .i64 (gRdI op v), .int .i64 (gRs1I op v), .int .i64 (gRs2I op v), .int .i64 (gImmI op v), .int .i64 (gCsrI op v)]) ∧ Grown w w' := by
  by_cases cU : op ≤ 2
  · exact read_at_U op v r (by omega) cU hv0 hv1 hr w hT
  by_cases cJ : op ≤ 3
  · exact read_at_J op v r (by omega) cJ hv0 hv1 hr w hT
  by_cases cJr : op ≤ 4
  · exact read_at_Jr op v r (by omega) cJr hv0 hv1 hr w hT
  by_cases cB : op ≤ 10
  · exact read_at_B op v r (by omega) cB hv0 hv1 hr w hT
  by_cases cL : op ≤ 17
  · exact read_at_L op v r (by omega) cL hv0 hv1 hr w hT
  by_cases cS : op ≤ 21
  · exact read_at_S op v r (by omega) cS hv0 hv1 hr w hT
  by_cases cI : op ≤ 27
  · exact read_at_I op v r (by omega) cI hv0 hv1 hr w hT
  by_cases cH : op ≤ 30
  · exact read_at_H op v r (by omega) cH hv0 hv1 hr w hT
  by_cases cIw : op ≤ 31
  · exact read_at_Iw op v r (by omega) cIw hv0 hv1 hr w hT
  by_cases cHw : op ≤ 34
  · exact read_at_Hw op v r (by omega) cHw hv0 hv1 hr w hT
  by_cases cR : op ≤ 49
  · exact read_at_R op v r (by omega) cR hv0 hv1 hr w hT
  by_cases cF : op ≤ 51
  · exact read_at_F op v r (by omega) cF hv0 hv1 hr w hT
  by_cases cE : op ≤ 53
  · exact read_at_E op v r (by omega) cE hv0 hv1 hr w hT
  by_cases cC : op ≤ 56
  · exact read_at_C op v r (by omega) cC hv0 hv1 hr w hT
  by_cases cCi : op ≤ 59
  · exact read_at_Ci op v r (by omega) cCi hv0 hv1 hr w hT
  by_cases cM : op ≤ 62
  · exact read_at_M op v r (by omega) cM hv0 hv1 hr w hT
  by_cases cV : op ≤ 65
  · exact read_at_V op v r (by omega) cV hv0 hv1 hr w hT
  by_cases cG : op ≤ 67
  · exact read_at_G op v r (by omega) cG hv0 hv1 hr w hT
  by_cases cX : op ≤ 68
  · exact read_at_X op v r (by omega) cX hv0 hv1 hr w hT
  exact read_at_Gs op v r (by omega) (by omega) hv0 hv1 hr w hT
end Go.Proofs.YtbcmklojfmenjaaDoor
