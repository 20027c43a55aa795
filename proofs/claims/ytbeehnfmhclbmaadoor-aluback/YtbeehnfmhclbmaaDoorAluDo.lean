/-
  What package alu's Do, Taken, Csr and Extend answer: walked whole, for every argument, where the listed tables' cells stand.
-/
import Derived.Test.YtbeehnfmhclbmaaDoorAlu
namespace Go.Proofs.YtbeehnfmhclbmaaDoor
open Go.RowKit
/-- The cells of the table of deeds, one behind the other. -/
def ddL : List Value := flatD 4 (Rows.laid_sallyport_alu_deeds (H := Unit))
def TabD (w : World) : Prop := ∀ i v, ddL[i]? = some v → w.cell? ⟨0, i, none⟩ = some v
theorem TabD.grown {a b : World} (h : TabD a) (g : Grown a b) : TabD b := fun i v hi => Grown.cell g (h i v hi)
def ddI (op : Int) : Int := intOf (ddL.getD op.toNat (.int .u8 0))
theorem dd_len : ddL.length = 70 := by decide +kernel
theorem sizeD : (Tryd.prog.info? 32).map (·.size) = some ddL.length := by rw [dd_len]; kernel_rfl
theorem dd_cells : ∀ k : Fin 70, ddL[k.val]? = some (.int .u8 (ddI (k.val : Int))) := by
  have h : ∀ k : Fin 70, (match ddL[k.val]? with | some (.int .u8 n) => n == ddI (k.val : Int) | _ => false) = true := by decide +kernel
  intro k
  have e := h k
  split at e
  · next n hn => rw [hn, eq_of_beq e]
  · cases e
theorem TabD.cell {w : World} (h : TabD w) (op : Int) (h0 : 0 ≤ op) (h1 : op < 70) : w.cell? ⟨0, op.toNat, none⟩ = some (.int .u8 (ddI op)) := by
  have e := h op.toNat _ (dd_cells ⟨op.toNat, by omega⟩)
  rwa [show ((op.toNat : Nat) : Int) = op by omega] at e
/-- The listed tables' cells stand. -/
structure Tab5 (w : World) : Prop where
  i : TabI w
  d : TabD w
theorem Tab5.grown {a b : World} (h : Tab5 a) (g : Grown a b) : Tab5 b := ⟨h.i.grown g, h.d.grown g⟩
set_option maxRecDepth 100000 in
set_option maxHeartbeats 1000000 in
theorem do_in (op a b : Int) (hb : U b) (h0 : 22 ≤ op) (h1 : op ≤ 49) (w : World) (hT : Tab5 w) :
    Calls Tryd.prog 10 #[.int .i64 op, .int .u64 a, .int .u64 b] w fun e w' => e = .returned (.int .u64 (reckI (ddI op) a b)) ∧ Grown w w' := by
  have hc : clsI op = 5 ∨ clsI op = 6 := by
    by_cases h : op ≤ 34
    · exact .inl (cls_5 h0 h).symm
    · exact .inr (cls_6 (by omega) h1).symm
  rcases hc with hc | hc
  all_goals
    go_enter Tryd.func10, Tryd.ntmps10
    go_wp2_with fail
    refine (class_in _ _ hT.i).mono ?_
    rintro e w1 ⟨rfl, hg⟩
    have hD := (hT.grown hg).d.cell op (by omega) (by omega)
    rw [hc]
    clear hc hT
    go_wp2_with (go_at_call 20; refine (reckon_any _ _ _ hb _).mono ?_; rintro e w' ⟨rfl, rfl⟩)
    go_ret
    exact ⟨rfl, hg⟩
set_option maxHeartbeats 1000000 in
theorem do_out (op a b : Int) (h0 : ¬ (22 ≤ op ∧ op ≤ 49)) (w : World) (hT : Tab5 w) :
    Calls Tryd.prog 10 #[.int .i64 op, .int .u64 a, .int .u64 b] w fun e w' => e = .returned (.int .u64 0) ∧ Grown w w' := by
  have c5 : ¬ clsI op = 5 := by
    unfold clsI
    repeat (first | omega | split)
  have c6 : ¬ clsI op = 6 := by
    unfold clsI
    repeat (first | omega | split)
  have d5 : (clsI op == 5) = false := beq_eq_false_iff_ne.2 c5
  have d6 : (clsI op == 6) = false := beq_eq_false_iff_ne.2 c6
  clear c5 c6 h0
  go_enter Tryd.func10, Tryd.ntmps10
  go_wp2_with fail
  refine (class_in _ _ hT.i).mono ?_
  rintro e w1 ⟨rfl, hg⟩
  go_wp2
  go_ret
  exact ⟨rfl, hg⟩
theorem zext32 {a : Int} (ha : U a) : zextI a 32 = a % 4294967296 := by
  have h : clamp 32 1 64 = 32 := by decide
  rw [← and_ones ha 32 32 h, show onesI 32 = 4294967295 by decide +kernel]
  exact bits_mask .u64 64 (by decide) wraps_u64 32 (by decide) a ha.1 ha.2
theorem sext_sar {a : Int} (ha : U a) (s : Nat) : sextI (IntKind.u64.wrap (wrap64 (sextI a 32) / 2 ^ s)) 32 = IntKind.u64.wrap (wrap64 (sextI a 32) / 2 ^ s) := by
  have h : clamp 32 1 64 = 32 := by decide
  refine (U_sext _ _).ext (U_wrap _) fun i hi => ?_
  rw [tb_sext (U_wrap _) _ _ hi, h]
  by_cases hi2 : (i : Int) < 32
  · rw [if_pos hi2]
  · rw [if_neg hi2, tb_sar (U_sext _ _) _ _ (by decide), tb_sar (U_sext _ _) _ _ hi]
    have e : ∀ j : Nat, 31 ≤ j → j < 64 → tb (sextI a 32) j = tb a 31 := by
      intro j h1 h2
      rw [tb_sext ha _ _ h2, h]
      by_cases h3 : (j : Int) < 32
      · rw [if_pos h3, show j = 31 by omega]
      · rw [if_neg h3]; rfl
    split <;> split <;> (rw [e _ (by omega) (by omega)]; try rw [e _ (by omega) (by omega)])
theorem reck_low {d : Int} (a b : Int) (h : bits .and .u8 d 128 = 0) : reckI d a b = withI 64 d a b := by unfold reckI; rw [if_pos h]
theorem reck_half {d e : Int} (a b : Int) (h : ¬ bits .and .u8 d 128 = 0) (he : bits .andNot .u8 d 128 = e) : reckI d a b = sextI (withI 32 e a b) 32 := by unfold reckI; rw [if_neg h, he]
theorem zext64 {a : Int} (ha : U a) : zextI a 64 = a := (whole64 ha 64 (by decide)).2
theorem sext64 {a : Int} (ha : U a) : sextI a 64 = a := (whole64 ha 64 (by decide)).1
set_option linter.unusedVariables false
theorem do_22 {a b : Int} (ha : U a) : reckI (ddI 22) a b = doI 22 a b := by
  rw [show ddI 22 = 1 by decide +kernel, reck_low a b (by decide +kernel)]
  simp only [withI, doI, Int.reduceEq, if_true, if_false, or_false, or_self]
theorem do_23 {a b : Int} (ha : U a) : reckI (ddI 23) a b = doI 23 a b := by
  rw [show ddI 23 = 4 by decide +kernel, reck_low a b (by decide +kernel)]
  simp only [withI, doI, Int.reduceEq, if_true, if_false, or_false, or_self]
theorem do_24 {a b : Int} (ha : U a) : reckI (ddI 24) a b = doI 24 a b := by
  rw [show ddI 24 = 3 by decide +kernel, reck_low a b (by decide +kernel)]
  simp only [withI, doI, Int.reduceEq, if_true, if_false, or_false, or_self]
theorem do_25 {a b : Int} (ha : U a) : reckI (ddI 25) a b = doI 25 a b := by
  rw [show ddI 25 = 5 by decide +kernel, reck_low a b (by decide +kernel)]
  simp only [withI, doI, Int.reduceEq, if_true, if_false, or_false, or_self]
theorem do_26 {a b : Int} (ha : U a) : reckI (ddI 26) a b = doI 26 a b := by
  rw [show ddI 26 = 6 by decide +kernel, reck_low a b (by decide +kernel)]
  simp only [withI, doI, Int.reduceEq, if_true, if_false, or_false, or_self]
theorem do_27 {a b : Int} (ha : U a) : reckI (ddI 27) a b = doI 27 a b := by
  rw [show ddI 27 = 7 by decide +kernel, reck_low a b (by decide +kernel)]
  simp only [withI, doI, Int.reduceEq, if_true, if_false, or_false, or_self]
theorem do_28 {a b : Int} (ha : U a) : reckI (ddI 28) a b = doI 28 a b := by
  rw [show ddI 28 = 8 by decide +kernel, reck_low a b (by decide +kernel)]
  simp only [withI, doI, Int.reduceEq, if_true, if_false, or_false, or_self]
theorem do_29 {a b : Int} (ha : U a) : reckI (ddI 29) a b = doI 29 a b := by
  rw [show ddI 29 = 9 by decide +kernel, reck_low a b (by decide +kernel)]
  simp only [withI, doI, Int.reduceEq, if_true, if_false, or_false, or_self, zext64 ha]
theorem do_30 {a b : Int} (ha : U a) : reckI (ddI 30) a b = doI 30 a b := by
  rw [show ddI 30 = 10 by decide +kernel, reck_low a b (by decide +kernel)]
  simp only [withI, doI, Int.reduceEq, if_true, if_false, or_false, or_self, sext64 ha]
theorem do_31 {a b : Int} (ha : U a) : reckI (ddI 31) a b = doI 31 a b := by
  rw [show ddI 31 = 129 by decide +kernel, reck_half (e := 1) a b (by decide +kernel) (by decide +kernel)]
  simp only [withI, doI, Int.reduceEq, if_true, if_false, or_false, or_self]
theorem do_32 {a b : Int} (ha : U a) : reckI (ddI 32) a b = doI 32 a b := by
  rw [show ddI 32 = 136 by decide +kernel, reck_half (e := 8) a b (by decide +kernel) (by decide +kernel)]
  simp only [withI, doI, Int.reduceEq, if_true, if_false, or_false, or_self]
theorem do_33 {a b : Int} (ha : U a) : reckI (ddI 33) a b = doI 33 a b := by
  rw [show ddI 33 = 137 by decide +kernel, reck_half (e := 9) a b (by decide +kernel) (by decide +kernel)]
  simp only [withI, doI, Int.reduceEq, if_true, if_false, or_false, or_self, zext32 ha]
theorem do_34 {a b : Int} (ha : U a) : reckI (ddI 34) a b = doI 34 a b := by
  rw [show ddI 34 = 138 by decide +kernel, reck_half (e := 10) a b (by decide +kernel) (by decide +kernel)]
  simp only [withI, doI, Int.reduceEq, if_true, if_false, or_false, or_self, sext_sar ha]
theorem do_35 {a b : Int} (ha : U a) : reckI (ddI 35) a b = doI 35 a b := by
  rw [show ddI 35 = 1 by decide +kernel, reck_low a b (by decide +kernel)]
  simp only [withI, doI, Int.reduceEq, if_true, if_false, or_true, or_self]
theorem do_36 {a b : Int} (ha : U a) : reckI (ddI 36) a b = doI 36 a b := by
  rw [show ddI 36 = 2 by decide +kernel, reck_low a b (by decide +kernel)]
  simp only [withI, doI, Int.reduceEq, if_true, if_false, or_self]
theorem do_37 {a b : Int} (ha : U a) : reckI (ddI 37) a b = doI 37 a b := by
  rw [show ddI 37 = 8 by decide +kernel, reck_low a b (by decide +kernel)]
  simp only [withI, doI, Int.reduceEq, if_true, if_false, or_true, or_self]
theorem do_38 {a b : Int} (ha : U a) : reckI (ddI 38) a b = doI 38 a b := by
  rw [show ddI 38 = 4 by decide +kernel, reck_low a b (by decide +kernel)]
  simp only [withI, doI, Int.reduceEq, if_true, if_false, or_true, or_self]
theorem do_39 {a b : Int} (ha : U a) : reckI (ddI 39) a b = doI 39 a b := by
  rw [show ddI 39 = 3 by decide +kernel, reck_low a b (by decide +kernel)]
  simp only [withI, doI, Int.reduceEq, if_true, if_false, or_true, or_self]
theorem do_40 {a b : Int} (ha : U a) : reckI (ddI 40) a b = doI 40 a b := by
  rw [show ddI 40 = 5 by decide +kernel, reck_low a b (by decide +kernel)]
  simp only [withI, doI, Int.reduceEq, if_true, if_false, or_true, or_self]
theorem do_41 {a b : Int} (ha : U a) : reckI (ddI 41) a b = doI 41 a b := by
  rw [show ddI 41 = 9 by decide +kernel, reck_low a b (by decide +kernel)]
  simp only [withI, doI, Int.reduceEq, if_true, if_false, or_true, or_self, zext64 ha]
theorem do_42 {a b : Int} (ha : U a) : reckI (ddI 42) a b = doI 42 a b := by
  rw [show ddI 42 = 10 by decide +kernel, reck_low a b (by decide +kernel)]
  simp only [withI, doI, Int.reduceEq, if_true, if_false, or_true, or_self, sext64 ha]
theorem do_43 {a b : Int} (ha : U a) : reckI (ddI 43) a b = doI 43 a b := by
  rw [show ddI 43 = 6 by decide +kernel, reck_low a b (by decide +kernel)]
  simp only [withI, doI, Int.reduceEq, if_true, if_false, or_true, or_self]
theorem do_44 {a b : Int} (ha : U a) : reckI (ddI 44) a b = doI 44 a b := by
  rw [show ddI 44 = 7 by decide +kernel, reck_low a b (by decide +kernel)]
  simp only [withI, doI, Int.reduceEq, if_true, if_false, or_true, or_self]
theorem do_45 {a b : Int} (ha : U a) : reckI (ddI 45) a b = doI 45 a b := by
  rw [show ddI 45 = 129 by decide +kernel, reck_half (e := 1) a b (by decide +kernel) (by decide +kernel)]
  simp only [withI, doI, Int.reduceEq, if_true, if_false, or_true, or_self]
theorem do_46 {a b : Int} (ha : U a) : reckI (ddI 46) a b = doI 46 a b := by
  rw [show ddI 46 = 130 by decide +kernel, reck_half (e := 2) a b (by decide +kernel) (by decide +kernel)]
  simp only [withI, doI, Int.reduceEq, if_true, if_false, or_self]
theorem do_47 {a b : Int} (ha : U a) : reckI (ddI 47) a b = doI 47 a b := by
  rw [show ddI 47 = 136 by decide +kernel, reck_half (e := 8) a b (by decide +kernel) (by decide +kernel)]
  simp only [withI, doI, Int.reduceEq, if_true, if_false, or_true, or_self]
theorem do_48 {a b : Int} (ha : U a) : reckI (ddI 48) a b = doI 48 a b := by
  rw [show ddI 48 = 137 by decide +kernel, reck_half (e := 9) a b (by decide +kernel) (by decide +kernel)]
  simp only [withI, doI, Int.reduceEq, if_true, if_false, or_true, or_self, zext32 ha]
theorem do_49 {a b : Int} (ha : U a) : reckI (ddI 49) a b = doI 49 a b := by
  rw [show ddI 49 = 138 by decide +kernel, reck_half (e := 10) a b (by decide +kernel) (by decide +kernel)]
  simp only [withI, doI, Int.reduceEq, if_true, if_false, or_true, or_self, sext_sar ha]
theorem do_eq {op a b : Int} (ha : U a) (h0 : 22 ≤ op) (h1 : op ≤ 49) : reckI (ddI op) a b = doI op a b := by
  have h : op = 22 ∨ op = 23 ∨ op = 24 ∨ op = 25 ∨ op = 26 ∨ op = 27 ∨ op = 28 ∨ op = 29 ∨ op = 30 ∨ op = 31 ∨ op = 32 ∨ op = 33 ∨ op = 34 ∨ op = 35 ∨ op = 36 ∨ op = 37 ∨ op = 38 ∨ op = 39 ∨ op = 40 ∨ op = 41 ∨ op = 42 ∨ op = 43 ∨ op = 44 ∨ op = 45 ∨ op = 46 ∨ op = 47 ∨ op = 48 ∨ op = 49 := by omega
  rcases h with rfl | rfl | rfl | rfl | rfl | rfl | rfl | rfl | rfl | rfl | rfl | rfl | rfl | rfl | rfl | rfl | rfl | rfl | rfl | rfl | rfl | rfl | rfl | rfl | rfl | rfl | rfl | rfl
  · exact do_22 ha
  · exact do_23 ha
  · exact do_24 ha
  · exact do_25 ha
  · exact do_26 ha
  · exact do_27 ha
  · exact do_28 ha
  · exact do_29 ha
  · exact do_30 ha
  · exact do_31 ha
  · exact do_32 ha
  · exact do_33 ha
  · exact do_34 ha
  · exact do_35 ha
  · exact do_36 ha
  · exact do_37 ha
  · exact do_38 ha
  · exact do_39 ha
  · exact do_40 ha
  · exact do_41 ha
  · exact do_42 ha
  · exact do_43 ha
  · exact do_44 ha
  · exact do_45 ha
  · exact do_46 ha
  · exact do_47 ha
  · exact do_48 ha
  · exact do_49 ha
theorem do_none {op a b : Int} (h : ¬ (22 ≤ op ∧ op ≤ 49)) : doI op a b = 0 := by
  unfold doI
  repeat rw [if_neg (by omega)]
theorem do_any (op a b : Int) (ha : U a) (hb : U b) (w : World) (hT : Tab5 w) :
    Calls Tryd.prog 10 #[.int .i64 op, .int .u64 a, .int .u64 b] w fun e w' => e = .returned (.int .u64 (doI op a b)) ∧ Grown w w' := by
  by_cases h : 22 ≤ op ∧ op ≤ 49
  · rw [← do_eq ha h.1 h.2]; exact do_in op a b hb h.1 h.2 w hT
  · rw [do_none h]; exact do_out op a b h w hT
set_option maxRecDepth 100000 in
set_option maxHeartbeats 4000000 in
theorem taken_any (op a b : Int) (w : World) :
    Calls Tryd.prog 12 #[.int .i64 op, .int .u64 a, .int .u64 b] w fun e w' => e = .returned (.bool (takenB op a b)) ∧ w' = w := by
  go_enter Tryd.func12, Tryd.ntmps12
  go_wp2_with (go_at_call 24; refine (high_any _ _ _).mono ?_; rintro e w' ⟨rfl, rfl⟩)
  all_goals
    go_ret
    refine ⟨ret_boo ?_, rfl⟩
    simp only [beq_iff_eq, beq_eq_false_iff_ne, ne_eq] at *
    unfold takenB
    repeat (first | rw [if_pos (by omega)] | rw [if_neg (by omega)])
set_option maxRecDepth 100000 in
set_option maxHeartbeats 4000000 in
theorem csr_any (op o v : Int) (w : World) :
    Calls Tryd.prog 14 #[.int .i64 op, .int .u64 o, .int .u64 v] w fun e w' => e = .returned (.int .u64 (csrI op o v)) ∧ w' = w := by
  go_enter Tryd.func14, Tryd.ntmps14
  go_wp2
  all_goals
    go_ret
    refine ⟨ret_int ?_, rfl⟩
    simp only [beq_iff_eq, beq_eq_false_iff_ne, ne_eq] at *
    unfold csrI
    repeat (first | rw [if_pos (by omega)] | rw [if_neg (by omega)])
theorem sizes_any (op : Int) (w : World) :
    Calls Tryd.prog 25 #[.int .i64 op] w fun e w' => e = .returned (.int .i64 (szI op)) ∧ w' = w := by
  go_enter Tryd.func25, Tryd.ntmps25
  go_wp2_with (go_at_call 30; refine (size_any _ _).mono ?_; rintro e w' ⟨rfl, rfl⟩)
  go_ret
  exact ⟨rfl, rfl⟩
theorem sz_bd (op : Int) : 0 ≤ szI op ∧ szI op ≤ 8 := by
  unfold szI; repeat (first | omega | split)
/-- What is read, by its size. -/
def ext5 (op v : Int) : Int := if op = 11 ∨ op = 12 ∨ op = 13 ∨ op = 14 ∨ op = 66 ∨ op = 67 then sextI v (8 * szI op) else if op = 15 ∨ op = 16 ∨ op = 17 ∨ op = 68 then zextI v (8 * szI op) else 0
set_option maxRecDepth 100000 in
set_option maxHeartbeats 4000000 in
theorem ext5_any (op v : Int) (w : World) :
    Calls Tryd.prog 16 #[.int .i64 op, .int .u64 v] w fun e w' => e = .returned (.int .u64 (ext5 op v)) ∧ w' = w := by
  obtain ⟨z0, z1⟩ := sz_bd op
  go_enter Tryd.func16, Tryd.ntmps16
  go_wp2_with (first | (go_at_call 25; refine (sizes_any _ _).mono ?_; rintro e w' ⟨rfl, rfl⟩) | (go_at_call 26; refine (sext_any _ _ _).mono ?_; rintro e w' ⟨rfl, rfl⟩) | (go_at_call 27; refine (zext_any _ _ _).mono ?_; rintro e w' ⟨rfl, rfl⟩))
  all_goals
    go_ret
    refine ⟨ret_int ?_, rfl⟩
    simp only [beq_iff_eq, beq_eq_false_iff_ne, ne_eq] at *
    unfold ext5
    repeat (first | rw [if_pos (by omega)] | rw [if_neg (by omega)])
theorem zext8 {a : Int} (ha : U a) : zextI a 8 = a % 256 := by
  have h : clamp 8 1 64 = 8 := by decide
  rw [← and_ones ha 8 8 h, show onesI 8 = 255 by decide +kernel]
  exact bits_mask .u64 64 (by decide) wraps_u64 8 (by decide) a ha.1 ha.2
theorem zext16 {a : Int} (ha : U a) : zextI a 16 = a % 65536 := by
  have h : clamp 16 1 64 = 16 := by decide
  rw [← and_ones ha 16 16 h, show onesI 16 = 65535 by decide +kernel]
  exact bits_mask .u64 64 (by decide) wraps_u64 16 (by decide) a ha.1 ha.2
theorem ext_eq (op : Int) {v : Int} (hv : U v) : ext5 op v = extI op v := by
  by_cases h : op = 11 ∨ op = 12 ∨ op = 13 ∨ op = 14 ∨ op = 66 ∨ op = 67 ∨ op = 15 ∨ op = 16 ∨ op = 17 ∨ op = 68
  · rcases h with rfl | rfl | rfl | rfl | rfl | rfl | rfl | rfl | rfl | rfl <;> simp only [ext5, extI, szI, Int.reduceEq, Int.reduceMul, if_true, if_false, or_false, or_true, or_self, zext8 hv, zext16 hv, zext32 hv, sext64 hv]
  · unfold ext5 extI
    repeat rw [if_neg (by omega)]
theorem ext_any (op v : Int) (hv : U v) (w : World) :
    Calls Tryd.prog 16 #[.int .i64 op, .int .u64 v] w fun e w' => e = .returned (.int .u64 (extI op v)) ∧ w' = w := by
  rw [← ext_eq op hv]; exact ext5_any op v w
end Go.Proofs.YtbeehnfmhclbmaaDoor
