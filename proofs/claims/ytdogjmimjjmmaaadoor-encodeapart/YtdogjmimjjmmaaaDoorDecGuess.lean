/-
  What package decode's read answers of what is left of a word is what the document's words of the operation say.
-/
import Derived.Test.YtdogjmimjjmmaaaDoorDecTab
import Derived.Test.YtdogjmimjjmmaaaDoorDecMask
import Derived.Test.YtdogjmimjjmmaaaDoorHitsD
import Derived.Test.YtdogjmimjjmmaaaDoorDecRead
namespace Go.Proofs.YtdogjmimjjmmaaaDoor
open Go.RowKit
theorem tab_U {op : Int} (h0 : 1 ≤ op) (h1 : op ≤ 2) : tlI op = 127 ∧ hdI op = opcI op := by
  have := op_cases (p := fun op => 1 ≤ op → op ≤ 2 → tlI op = 127 ∧ hdI op = opcI op) (by decide +kernel) (fun op h a c => by omega) op
  exact this h0 h1
theorem tell_U (op v : Int) (h0 : 1 ≤ op) (h1 : op ≤ 2) (hv0 : 0 ≤ v) (hv1 : v < 4294967296) : tellB op v = hitB op v := by
  obtain ⟨t0, t1⟩ := tab_U h0 h1
  obtain ⟨o0, o1, o2, o3, o4, o5⟩ := codes_bd op
  rw [hit_U op v h0 h1 hv0 hv1]
  unfold tellB
  rw [t0, t1, and_m1 hv0 hv1]
theorem tab_J {op : Int} (h0 : 3 ≤ op) (h1 : op ≤ 3) : tlI op = 127 ∧ hdI op = opcI op := by
  have := op_cases (p := fun op => 3 ≤ op → op ≤ 3 → tlI op = 127 ∧ hdI op = opcI op) (by decide +kernel) (fun op h a c => by omega) op
  exact this h0 h1
theorem tell_J (op v : Int) (h0 : 3 ≤ op) (h1 : op ≤ 3) (hv0 : 0 ≤ v) (hv1 : v < 4294967296) : tellB op v = hitB op v := by
  obtain ⟨t0, t1⟩ := tab_J h0 h1
  obtain ⟨o0, o1, o2, o3, o4, o5⟩ := codes_bd op
  rw [hit_J op v h0 h1 hv0 hv1]
  unfold tellB
  rw [t0, t1, and_m1 hv0 hv1]
theorem tab_Jr {op : Int} (h0 : 4 ≤ op) (h1 : op ≤ 4) : tlI op = 28799 ∧ hdI op = opcI op + f3I op * 4096 := by
  have := op_cases (p := fun op => 4 ≤ op → op ≤ 4 → tlI op = 28799 ∧ hdI op = opcI op + f3I op * 4096) (by decide +kernel) (fun op h a c => by omega) op
  exact this h0 h1
theorem tell_Jr (op v : Int) (h0 : 4 ≤ op) (h1 : op ≤ 4) (hv0 : 0 ≤ v) (hv1 : v < 4294967296) : tellB op v = hitB op v := by
  obtain ⟨t0, t1⟩ := tab_Jr h0 h1
  obtain ⟨o0, o1, o2, o3, o4, o5⟩ := codes_bd op
  rw [hit_Jr op v h0 h1 hv0 hv1]
  unfold tellB
  rw [t0, t1, and_m2 hv0 hv1]
  have b0 : 0 ≤ v % 128 ∧ v % 128 < 128 := by omega
  have b1 : 0 ≤ v / 4096 % 8 ∧ v / 4096 % 8 < 8 := by omega
  clear hv0 hv1
  generalize v / 4096 % 8 = y1 at *
  generalize v % 128 = y0 at *
  apply Bool.eq_iff_iff.2
  simp
  omega
theorem tab_B {op : Int} (h0 : 5 ≤ op) (h1 : op ≤ 10) : tlI op = 28799 ∧ hdI op = opcI op + f3I op * 4096 := by
  have := op_cases (p := fun op => 5 ≤ op → op ≤ 10 → tlI op = 28799 ∧ hdI op = opcI op + f3I op * 4096) (by decide +kernel) (fun op h a c => by omega) op
  exact this h0 h1
theorem tell_B (op v : Int) (h0 : 5 ≤ op) (h1 : op ≤ 10) (hv0 : 0 ≤ v) (hv1 : v < 4294967296) : tellB op v = hitB op v := by
  obtain ⟨t0, t1⟩ := tab_B h0 h1
  obtain ⟨o0, o1, o2, o3, o4, o5⟩ := codes_bd op
  rw [hit_B op v h0 h1 hv0 hv1]
  unfold tellB
  rw [t0, t1, and_m2 hv0 hv1]
  have b0 : 0 ≤ v % 128 ∧ v % 128 < 128 := by omega
  have b1 : 0 ≤ v / 4096 % 8 ∧ v / 4096 % 8 < 8 := by omega
  clear hv0 hv1
  generalize v / 4096 % 8 = y1 at *
  generalize v % 128 = y0 at *
  apply Bool.eq_iff_iff.2
  simp
  omega
theorem tab_L {op : Int} (h0 : 11 ≤ op) (h1 : op ≤ 17) : tlI op = 28799 ∧ hdI op = opcI op + f3I op * 4096 := by
  have := op_cases (p := fun op => 11 ≤ op → op ≤ 17 → tlI op = 28799 ∧ hdI op = opcI op + f3I op * 4096) (by decide +kernel) (fun op h a c => by omega) op
  exact this h0 h1
theorem tell_L (op v : Int) (h0 : 11 ≤ op) (h1 : op ≤ 17) (hv0 : 0 ≤ v) (hv1 : v < 4294967296) : tellB op v = hitB op v := by
  obtain ⟨t0, t1⟩ := tab_L h0 h1
  obtain ⟨o0, o1, o2, o3, o4, o5⟩ := codes_bd op
  rw [hit_L op v h0 h1 hv0 hv1]
  unfold tellB
  rw [t0, t1, and_m2 hv0 hv1]
  have b0 : 0 ≤ v % 128 ∧ v % 128 < 128 := by omega
  have b1 : 0 ≤ v / 4096 % 8 ∧ v / 4096 % 8 < 8 := by omega
  clear hv0 hv1
  generalize v / 4096 % 8 = y1 at *
  generalize v % 128 = y0 at *
  apply Bool.eq_iff_iff.2
  simp
  omega
theorem tab_S {op : Int} (h0 : 18 ≤ op) (h1 : op ≤ 21) : tlI op = 28799 ∧ hdI op = opcI op + f3I op * 4096 := by
  have := op_cases (p := fun op => 18 ≤ op → op ≤ 21 → tlI op = 28799 ∧ hdI op = opcI op + f3I op * 4096) (by decide +kernel) (fun op h a c => by omega) op
  exact this h0 h1
theorem tell_S (op v : Int) (h0 : 18 ≤ op) (h1 : op ≤ 21) (hv0 : 0 ≤ v) (hv1 : v < 4294967296) : tellB op v = hitB op v := by
  obtain ⟨t0, t1⟩ := tab_S h0 h1
  obtain ⟨o0, o1, o2, o3, o4, o5⟩ := codes_bd op
  rw [hit_S op v h0 h1 hv0 hv1]
  unfold tellB
  rw [t0, t1, and_m2 hv0 hv1]
  have b0 : 0 ≤ v % 128 ∧ v % 128 < 128 := by omega
  have b1 : 0 ≤ v / 4096 % 8 ∧ v / 4096 % 8 < 8 := by omega
  clear hv0 hv1
  generalize v / 4096 % 8 = y1 at *
  generalize v % 128 = y0 at *
  apply Bool.eq_iff_iff.2
  simp
  omega
theorem tab_I {op : Int} (h0 : 22 ≤ op) (h1 : op ≤ 27) : tlI op = 28799 ∧ hdI op = opcI op + f3I op * 4096 := by
  have := op_cases (p := fun op => 22 ≤ op → op ≤ 27 → tlI op = 28799 ∧ hdI op = opcI op + f3I op * 4096) (by decide +kernel) (fun op h a c => by omega) op
  exact this h0 h1
theorem tell_I (op v : Int) (h0 : 22 ≤ op) (h1 : op ≤ 27) (hv0 : 0 ≤ v) (hv1 : v < 4294967296) : tellB op v = hitB op v := by
  obtain ⟨t0, t1⟩ := tab_I h0 h1
  obtain ⟨o0, o1, o2, o3, o4, o5⟩ := codes_bd op
  rw [hit_I op v h0 h1 hv0 hv1]
  unfold tellB
  rw [t0, t1, and_m2 hv0 hv1]
  have b0 : 0 ≤ v % 128 ∧ v % 128 < 128 := by omega
  have b1 : 0 ≤ v / 4096 % 8 ∧ v / 4096 % 8 < 8 := by omega
  clear hv0 hv1
  generalize v / 4096 % 8 = y1 at *
  generalize v % 128 = y0 at *
  apply Bool.eq_iff_iff.2
  simp
  omega
theorem tab_H {op : Int} (h0 : 28 ≤ op) (h1 : op ≤ 30) : tlI op = 4227887231 ∧ hdI op = opcI op + f3I op * 4096 + f7I op * 33554432 := by
  have := op_cases (p := fun op => 28 ≤ op → op ≤ 30 → tlI op = 4227887231 ∧ hdI op = opcI op + f3I op * 4096 + f7I op * 33554432) (by decide +kernel) (fun op h a c => by omega) op
  exact this h0 h1
theorem tell_H (op v : Int) (h0 : 28 ≤ op) (h1 : op ≤ 30) (hv0 : 0 ≤ v) (hv1 : v < 4294967296) : tellB op v = hitB op v := by
  obtain ⟨t0, t1⟩ := tab_H h0 h1
  obtain ⟨o0, o1, o2, o3, o4, o5⟩ := codes_bd op
  have hev : f7I op % 2 = 0 := codes_even (by omega)
  rw [hit_H op v h0 h1 hv0 hv1]
  unfold tellB
  rw [t0, t1, and_m3 hv0 hv1]
  have b0 : 0 ≤ v % 128 ∧ v % 128 < 128 := by omega
  have b1 : 0 ≤ v / 4096 % 8 ∧ v / 4096 % 8 < 8 := by omega
  have b2 : 0 ≤ v / 67108864 ∧ v / 67108864 < 64 := by omega
  clear hv0 hv1
  generalize v / 4096 % 8 = y1 at *
  generalize v / 67108864 = y2 at *
  generalize v % 128 = y0 at *
  apply Bool.eq_iff_iff.2
  simp
  omega
theorem tab_Iw {op : Int} (h0 : 31 ≤ op) (h1 : op ≤ 31) : tlI op = 28799 ∧ hdI op = opcI op + f3I op * 4096 := by
  have := op_cases (p := fun op => 31 ≤ op → op ≤ 31 → tlI op = 28799 ∧ hdI op = opcI op + f3I op * 4096) (by decide +kernel) (fun op h a c => by omega) op
  exact this h0 h1
theorem tell_Iw (op v : Int) (h0 : 31 ≤ op) (h1 : op ≤ 31) (hv0 : 0 ≤ v) (hv1 : v < 4294967296) : tellB op v = hitB op v := by
  obtain ⟨t0, t1⟩ := tab_Iw h0 h1
  obtain ⟨o0, o1, o2, o3, o4, o5⟩ := codes_bd op
  rw [hit_Iw op v h0 h1 hv0 hv1]
  unfold tellB
  rw [t0, t1, and_m2 hv0 hv1]
  have b0 : 0 ≤ v % 128 ∧ v % 128 < 128 := by omega
  have b1 : 0 ≤ v / 4096 % 8 ∧ v / 4096 % 8 < 8 := by omega
  clear hv0 hv1
  generalize v / 4096 % 8 = y1 at *
  generalize v % 128 = y0 at *
  apply Bool.eq_iff_iff.2
  simp
  omega
theorem tab_Hw {op : Int} (h0 : 32 ≤ op) (h1 : op ≤ 34) : tlI op = 4261441663 ∧ hdI op = opcI op + f3I op * 4096 + f7I op * 33554432 := by
  have := op_cases (p := fun op => 32 ≤ op → op ≤ 34 → tlI op = 4261441663 ∧ hdI op = opcI op + f3I op * 4096 + f7I op * 33554432) (by decide +kernel) (fun op h a c => by omega) op
  exact this h0 h1
theorem tell_Hw (op v : Int) (h0 : 32 ≤ op) (h1 : op ≤ 34) (hv0 : 0 ≤ v) (hv1 : v < 4294967296) : tellB op v = hitB op v := by
  obtain ⟨t0, t1⟩ := tab_Hw h0 h1
  obtain ⟨o0, o1, o2, o3, o4, o5⟩ := codes_bd op
  have hev : f7I op % 2 = 0 := codes_even (by omega)
  rw [hit_Hw op v h0 h1 hv0 hv1]
  unfold tellB
  rw [t0, t1, and_m4 hv0 hv1]
  have b0 : 0 ≤ v % 128 ∧ v % 128 < 128 := by omega
  have b1 : 0 ≤ v / 4096 % 8 ∧ v / 4096 % 8 < 8 := by omega
  have b2 : 0 ≤ v / 33554432 ∧ v / 33554432 < 128 := by omega
  clear hv0 hv1
  generalize v / 4096 % 8 = y1 at *
  generalize v / 33554432 = y2 at *
  generalize v % 128 = y0 at *
  apply Bool.eq_iff_iff.2
  simp
  omega
theorem tab_R {op : Int} (h0 : 35 ≤ op) (h1 : op ≤ 49) : tlI op = 4261441663 ∧ hdI op = opcI op + f3I op * 4096 + f7I op * 33554432 := by
  have := op_cases (p := fun op => 35 ≤ op → op ≤ 49 → tlI op = 4261441663 ∧ hdI op = opcI op + f3I op * 4096 + f7I op * 33554432) (by decide +kernel) (fun op h a c => by omega) op
  exact this h0 h1
theorem tell_R (op v : Int) (h0 : 35 ≤ op) (h1 : op ≤ 49) (hv0 : 0 ≤ v) (hv1 : v < 4294967296) : tellB op v = hitB op v := by
  obtain ⟨t0, t1⟩ := tab_R h0 h1
  obtain ⟨o0, o1, o2, o3, o4, o5⟩ := codes_bd op
  rw [hit_R op v h0 h1 hv0 hv1]
  unfold tellB
  rw [t0, t1, and_m4 hv0 hv1]
  have b0 : 0 ≤ v % 128 ∧ v % 128 < 128 := by omega
  have b1 : 0 ≤ v / 4096 % 8 ∧ v / 4096 % 8 < 8 := by omega
  have b2 : 0 ≤ v / 33554432 ∧ v / 33554432 < 128 := by omega
  clear hv0 hv1
  generalize v / 4096 % 8 = y1 at *
  generalize v / 33554432 = y2 at *
  generalize v % 128 = y0 at *
  apply Bool.eq_iff_iff.2
  simp
  omega
theorem tab_C {op : Int} (h0 : 54 ≤ op) (h1 : op ≤ 56) : tlI op = 28799 ∧ hdI op = opcI op + f3I op * 4096 := by
  have := op_cases (p := fun op => 54 ≤ op → op ≤ 56 → tlI op = 28799 ∧ hdI op = opcI op + f3I op * 4096) (by decide +kernel) (fun op h a c => by omega) op
  exact this h0 h1
theorem tell_C (op v : Int) (h0 : 54 ≤ op) (h1 : op ≤ 56) (hv0 : 0 ≤ v) (hv1 : v < 4294967296) : tellB op v = hitB op v := by
  obtain ⟨t0, t1⟩ := tab_C h0 h1
  obtain ⟨o0, o1, o2, o3, o4, o5⟩ := codes_bd op
  rw [hit_C op v h0 h1 hv0 hv1]
  unfold tellB
  rw [t0, t1, and_m2 hv0 hv1]
  have b0 : 0 ≤ v % 128 ∧ v % 128 < 128 := by omega
  have b1 : 0 ≤ v / 4096 % 8 ∧ v / 4096 % 8 < 8 := by omega
  clear hv0 hv1
  generalize v / 4096 % 8 = y1 at *
  generalize v % 128 = y0 at *
  apply Bool.eq_iff_iff.2
  simp
  omega
theorem tab_Ci {op : Int} (h0 : 57 ≤ op) (h1 : op ≤ 59) : tlI op = 28799 ∧ hdI op = opcI op + f3I op * 4096 := by
  have := op_cases (p := fun op => 57 ≤ op → op ≤ 59 → tlI op = 28799 ∧ hdI op = opcI op + f3I op * 4096) (by decide +kernel) (fun op h a c => by omega) op
  exact this h0 h1
theorem tell_Ci (op v : Int) (h0 : 57 ≤ op) (h1 : op ≤ 59) (hv0 : 0 ≤ v) (hv1 : v < 4294967296) : tellB op v = hitB op v := by
  obtain ⟨t0, t1⟩ := tab_Ci h0 h1
  obtain ⟨o0, o1, o2, o3, o4, o5⟩ := codes_bd op
  rw [hit_Ci op v h0 h1 hv0 hv1]
  unfold tellB
  rw [t0, t1, and_m2 hv0 hv1]
  have b0 : 0 ≤ v % 128 ∧ v % 128 < 128 := by omega
  have b1 : 0 ≤ v / 4096 % 8 ∧ v / 4096 % 8 < 8 := by omega
  clear hv0 hv1
  generalize v / 4096 % 8 = y1 at *
  generalize v % 128 = y0 at *
  apply Bool.eq_iff_iff.2
  simp
  omega
theorem tab_V {op : Int} (h0 : 63 ≤ op) (h1 : op ≤ 65) : tlI op = 4261445631 ∧ hdI op = opcI op + f3I op * 4096 + f7I op * 33554432 := by
  have := op_cases (p := fun op => 63 ≤ op → op ≤ 65 → tlI op = 4261445631 ∧ hdI op = opcI op + f3I op * 4096 + f7I op * 33554432) (by decide +kernel) (fun op h a c => by omega) op
  exact this h0 h1
theorem tell_V (op v : Int) (h0 : 63 ≤ op) (h1 : op ≤ 65) (hv0 : 0 ≤ v) (hv1 : v < 4294967296) : tellB op v = hitB op v := by
  obtain ⟨t0, t1⟩ := tab_V h0 h1
  obtain ⟨o0, o1, o2, o3, o4, o5⟩ := codes_bd op
  rw [hit_V op v h0 h1 hv0 hv1]
  unfold tellB
  rw [t0, t1, and_m6 hv0 hv1]
  have b0 : 0 ≤ v % 128 ∧ v % 128 < 128 := by omega
  have b1 : 0 ≤ v / 128 % 32 ∧ v / 128 % 32 < 32 := by omega
  have b2 : 0 ≤ v / 4096 % 8 ∧ v / 4096 % 8 < 8 := by omega
  have b3 : 0 ≤ v / 33554432 ∧ v / 33554432 < 128 := by omega
  clear hv0 hv1
  generalize v / 128 % 32 = y1 at *
  generalize v / 4096 % 8 = y2 at *
  generalize v / 33554432 = y3 at *
  generalize v % 128 = y0 at *
  apply Bool.eq_iff_iff.2
  simp
  omega
theorem tab_G {op : Int} (h0 : 66 ≤ op) (h1 : op ≤ 67) : tlI op = 4293947519 ∧ hdI op = opcI op + f3I op * 4096 + f7I op * 33554432 := by
  have := op_cases (p := fun op => 66 ≤ op → op ≤ 67 → tlI op = 4293947519 ∧ hdI op = opcI op + f3I op * 4096 + f7I op * 33554432) (by decide +kernel) (fun op h a c => by omega) op
  exact this h0 h1
theorem tell_G (op v : Int) (h0 : 66 ≤ op) (h1 : op ≤ 67) (hv0 : 0 ≤ v) (hv1 : v < 4294967296) : tellB op v = hitB op v := by
  obtain ⟨t0, t1⟩ := tab_G h0 h1
  obtain ⟨o0, o1, o2, o3, o4, o5⟩ := codes_bd op
  rw [hit_G op v h0 h1 hv0 hv1]
  unfold tellB
  rw [t0, t1, and_m7 hv0 hv1]
  have b0 : 0 ≤ v % 128 ∧ v % 128 < 128 := by omega
  have b1 : 0 ≤ v / 4096 % 8 ∧ v / 4096 % 8 < 8 := by omega
  have b2 : 0 ≤ v / 1048576 % 32 ∧ v / 1048576 % 32 < 32 := by omega
  have b3 : 0 ≤ v / 33554432 ∧ v / 33554432 < 128 := by omega
  clear hv0 hv1
  generalize v / 1048576 % 32 = y2 at *
  generalize v / 4096 % 8 = y1 at *
  generalize v / 33554432 = y3 at *
  generalize v % 128 = y0 at *
  apply Bool.eq_iff_iff.2
  simp
  omega
theorem tab_X {op : Int} (h0 : 68 ≤ op) (h1 : op ≤ 68) : tlI op = 4293947519 ∧ hdI op = opcI op + f3I op * 4096 + 3145728 + f7I op * 33554432 := by
  have := op_cases (p := fun op => 68 ≤ op → op ≤ 68 → tlI op = 4293947519 ∧ hdI op = opcI op + f3I op * 4096 + 3145728 + f7I op * 33554432) (by decide +kernel) (fun op h a c => by omega) op
  exact this h0 h1
theorem tell_X (op v : Int) (h0 : 68 ≤ op) (h1 : op ≤ 68) (hv0 : 0 ≤ v) (hv1 : v < 4294967296) : tellB op v = hitB op v := by
  obtain ⟨t0, t1⟩ := tab_X h0 h1
  obtain ⟨o0, o1, o2, o3, o4, o5⟩ := codes_bd op
  rw [hit_X op v h0 h1 hv0 hv1]
  unfold tellB
  rw [t0, t1, and_m7 hv0 hv1]
  have b0 : 0 ≤ v % 128 ∧ v % 128 < 128 := by omega
  have b1 : 0 ≤ v / 4096 % 8 ∧ v / 4096 % 8 < 8 := by omega
  have b2 : 0 ≤ v / 1048576 % 32 ∧ v / 1048576 % 32 < 32 := by omega
  have b3 : 0 ≤ v / 33554432 ∧ v / 33554432 < 128 := by omega
  clear hv0 hv1
  generalize v / 1048576 % 32 = y2 at *
  generalize v / 4096 % 8 = y1 at *
  generalize v / 33554432 = y3 at *
  generalize v % 128 = y0 at *
  apply Bool.eq_iff_iff.2
  simp
  omega
theorem tab_Gs {op : Int} (h0 : 69 ≤ op) (h1 : op ≤ 69) : tlI op = 4261445631 ∧ hdI op = opcI op + f3I op * 4096 + f7I op * 33554432 := by
  have := op_cases (p := fun op => 69 ≤ op → op ≤ 69 → tlI op = 4261445631 ∧ hdI op = opcI op + f3I op * 4096 + f7I op * 33554432) (by decide +kernel) (fun op h a c => by omega) op
  exact this h0 h1
theorem tell_Gs (op v : Int) (h0 : 69 ≤ op) (h1 : op ≤ 69) (hv0 : 0 ≤ v) (hv1 : v < 4294967296) : tellB op v = hitB op v := by
  obtain ⟨t0, t1⟩ := tab_Gs h0 h1
  obtain ⟨o0, o1, o2, o3, o4, o5⟩ := codes_bd op
  rw [hit_Gs op v h0 h1 hv0 hv1]
  unfold tellB
  rw [t0, t1, and_m6 hv0 hv1]
  have b0 : 0 ≤ v % 128 ∧ v % 128 < 128 := by omega
  have b1 : 0 ≤ v / 128 % 32 ∧ v / 128 % 32 < 32 := by omega
  have b2 : 0 ≤ v / 4096 % 8 ∧ v / 4096 % 8 < 8 := by omega
  have b3 : 0 ≤ v / 33554432 ∧ v / 33554432 < 128 := by omega
  clear hv0 hv1
  generalize v / 128 % 32 = y1 at *
  generalize v / 4096 % 8 = y2 at *
  generalize v / 33554432 = y3 at *
  generalize v % 128 = y0 at *
  apply Bool.eq_iff_iff.2
  simp
  omega
theorem tab_fix {op : Int} (h : 50 ≤ op ∧ op ≤ 53 ∨ 60 ≤ op ∧ op ≤ 62) : tlI op = 4294967295 ∧ hdI op = fixI op := by
  have := op_cases (p := fun op => 50 ≤ op ∧ op ≤ 53 ∨ 60 ≤ op ∧ op ≤ 62 → tlI op = 4294967295 ∧ hdI op = fixI op) (by decide +kernel) (fun op h a => by omega) op
  exact this h
theorem tell_fix (op v : Int) (h : 50 ≤ op ∧ op ≤ 53 ∨ 60 ≤ op ∧ op ≤ 62) (hv0 : 0 ≤ v) (hv1 : v < 4294967296) : tellB op v = hitB op v := by
  obtain ⟨t0, t1⟩ := tab_fix h
  rw [hit_fix op v h]
  unfold tellB
  rw [t0, t1, and_m5 hv0 hv1]
  apply Bool.eq_iff_iff.2
  simp
  omega
theorem tell_hit (op v : Int) (h0 : 1 ≤ op) (h1 : op < 70) (hv0 : 0 ≤ v) (hv1 : v < 4294967296) : tellB op v = hitB op v := by
  by_cases cU : op ≤ 2
  · exact tell_U op v (by omega) cU hv0 hv1
  by_cases cJ : op ≤ 3
  · exact tell_J op v (by omega) cJ hv0 hv1
  by_cases cJr : op ≤ 4
  · exact tell_Jr op v (by omega) cJr hv0 hv1
  by_cases cB : op ≤ 10
  · exact tell_B op v (by omega) cB hv0 hv1
  by_cases cL : op ≤ 17
  · exact tell_L op v (by omega) cL hv0 hv1
  by_cases cS : op ≤ 21
  · exact tell_S op v (by omega) cS hv0 hv1
  by_cases cI : op ≤ 27
  · exact tell_I op v (by omega) cI hv0 hv1
  by_cases cH : op ≤ 30
  · exact tell_H op v (by omega) cH hv0 hv1
  by_cases cIw : op ≤ 31
  · exact tell_Iw op v (by omega) cIw hv0 hv1
  by_cases cHw : op ≤ 34
  · exact tell_Hw op v (by omega) cHw hv0 hv1
  by_cases cR : op ≤ 49
  · exact tell_R op v (by omega) cR hv0 hv1
  by_cases cfix1 : op ≤ 53
  · exact tell_fix op v (by omega) hv0 hv1
  by_cases cC : op ≤ 56
  · exact tell_C op v (by omega) cC hv0 hv1
  by_cases cCi : op ≤ 59
  · exact tell_Ci op v (by omega) cCi hv0 hv1
  by_cases cfix2 : op ≤ 62
  · exact tell_fix op v (by omega) hv0 hv1
  by_cases cV : op ≤ 65
  · exact tell_V op v (by omega) cV hv0 hv1
  by_cases cG : op ≤ 67
  · exact tell_G op v (by omega) cG hv0 hv1
  by_cases cX : op ≤ 68
  · exact tell_X op v (by omega) cX hv0 hv1
  exact tell_Gs op v (by omega) (by omega) hv0 hv1
end Go.Proofs.YtdogjmimjjmmaaaDoor
namespace Go.Proofs.YtdogjmimjjmmaaaDoor
open Go.RowKit
theorem rest_U {op v r : Int} (h0 : 1 ≤ op) (h1 : op ≤ 2) (hv0 : 0 ≤ v) (hv1 : v < 4294967296) (hr : r = bits .andNot .u32 v (tlI op)) : (0 ≤ r ∧ r < 4294967296) ∧ gRd r = gRd v ∧ gU r = gU v := by
  rw [(tab_U h0 h1).1, not_m1 hv0 hv1] at hr
  clear h0 h1
  refine ⟨⟨by omega, by omega⟩, ?_, ?_⟩
  · unfold gRd; omega
  · have q0 : r / 4096 = v / 4096 := by omega
    unfold gU
    rw [q0]
theorem rest_J {op v r : Int} (h0 : 3 ≤ op) (h1 : op ≤ 3) (hv0 : 0 ≤ v) (hv1 : v < 4294967296) (hr : r = bits .andNot .u32 v (tlI op)) : (0 ≤ r ∧ r < 4294967296) ∧ gRd r = gRd v ∧ gJ r = gJ v := by
  rw [(tab_J h0 h1).1, not_m1 hv0 hv1] at hr
  clear h0 h1
  refine ⟨⟨by omega, by omega⟩, ?_, ?_⟩
  · unfold gRd; omega
  · have q0 : r / 2147483648 = v / 2147483648 := by omega
    have q1 : r / 4096 % 256 = v / 4096 % 256 := by omega
    have q2 : r / 1048576 % 2 = v / 1048576 % 2 := by omega
    have q3 : r / 2097152 % 1024 = v / 2097152 % 1024 := by omega
    unfold gJ
    rw [q0, q1, q2, q3]
theorem rest_Jr {op v r : Int} (h0 : 4 ≤ op) (h1 : op ≤ 4) (hv0 : 0 ≤ v) (hv1 : v < 4294967296) (hr : r = bits .andNot .u32 v (tlI op)) : (0 ≤ r ∧ r < 4294967296) ∧ gRd r = gRd v ∧ gRs1 r = gRs1 v ∧ gI r = gI v := by
  rw [(tab_Jr h0 h1).1, not_m2 hv0 hv1] at hr
  clear h0 h1
  refine ⟨⟨by omega, by omega⟩, ?_, ?_, ?_⟩
  · unfold gRd; omega
  · unfold gRs1; omega
  · have q0 : r / 1048576 = v / 1048576 := by omega
    unfold gI
    rw [q0]
theorem rest_B {op v r : Int} (h0 : 5 ≤ op) (h1 : op ≤ 10) (hv0 : 0 ≤ v) (hv1 : v < 4294967296) (hr : r = bits .andNot .u32 v (tlI op)) : (0 ≤ r ∧ r < 4294967296) ∧ gRs1 r = gRs1 v ∧ gRs2 r = gRs2 v ∧ gB r = gB v := by
  rw [(tab_B h0 h1).1, not_m2 hv0 hv1] at hr
  clear h0 h1
  refine ⟨⟨by omega, by omega⟩, ?_, ?_, ?_⟩
  · unfold gRs1; omega
  · unfold gRs2; omega
  · have q0 : r / 2147483648 = v / 2147483648 := by omega
    have q1 : r / 128 % 2 = v / 128 % 2 := by omega
    have q2 : r / 33554432 % 64 = v / 33554432 % 64 := by omega
    have q3 : r / 256 % 16 = v / 256 % 16 := by omega
    unfold gB
    rw [q0, q1, q2, q3]
theorem rest_L {op v r : Int} (h0 : 11 ≤ op) (h1 : op ≤ 17) (hv0 : 0 ≤ v) (hv1 : v < 4294967296) (hr : r = bits .andNot .u32 v (tlI op)) : (0 ≤ r ∧ r < 4294967296) ∧ gRd r = gRd v ∧ gRs1 r = gRs1 v ∧ gI r = gI v := by
  rw [(tab_L h0 h1).1, not_m2 hv0 hv1] at hr
  clear h0 h1
  refine ⟨⟨by omega, by omega⟩, ?_, ?_, ?_⟩
  · unfold gRd; omega
  · unfold gRs1; omega
  · have q0 : r / 1048576 = v / 1048576 := by omega
    unfold gI
    rw [q0]
theorem rest_S {op v r : Int} (h0 : 18 ≤ op) (h1 : op ≤ 21) (hv0 : 0 ≤ v) (hv1 : v < 4294967296) (hr : r = bits .andNot .u32 v (tlI op)) : (0 ≤ r ∧ r < 4294967296) ∧ gRs1 r = gRs1 v ∧ gRs2 r = gRs2 v ∧ gS r = gS v := by
  rw [(tab_S h0 h1).1, not_m2 hv0 hv1] at hr
  clear h0 h1
  refine ⟨⟨by omega, by omega⟩, ?_, ?_, ?_⟩
  · unfold gRs1; omega
  · unfold gRs2; omega
  · have q0 : r / 33554432 = v / 33554432 := by omega
    have q1 : r / 128 % 32 = v / 128 % 32 := by omega
    unfold gS
    rw [q0, q1]
theorem rest_I {op v r : Int} (h0 : 22 ≤ op) (h1 : op ≤ 27) (hv0 : 0 ≤ v) (hv1 : v < 4294967296) (hr : r = bits .andNot .u32 v (tlI op)) : (0 ≤ r ∧ r < 4294967296) ∧ gRd r = gRd v ∧ gRs1 r = gRs1 v ∧ gI r = gI v := by
  rw [(tab_I h0 h1).1, not_m2 hv0 hv1] at hr
  clear h0 h1
  refine ⟨⟨by omega, by omega⟩, ?_, ?_, ?_⟩
  · unfold gRd; omega
  · unfold gRs1; omega
  · have q0 : r / 1048576 = v / 1048576 := by omega
    unfold gI
    rw [q0]
theorem rest_H {op v r : Int} (h0 : 28 ≤ op) (h1 : op ≤ 30) (hv0 : 0 ≤ v) (hv1 : v < 4294967296) (hr : r = bits .andNot .u32 v (tlI op)) : (0 ≤ r ∧ r < 4294967296) ∧ gRd r = gRd v ∧ gRs1 r = gRs1 v ∧ gI r = g6 v := by
  rw [(tab_H h0 h1).1, not_m3 hv0 hv1] at hr
  clear h0 h1
  refine ⟨⟨by omega, by omega⟩, ?_, ?_, ?_⟩
  · unfold gRd; omega
  · unfold gRs1; omega
  · unfold gI sgn g6
    rw [if_pos (by omega)]
    omega
theorem rest_Iw {op v r : Int} (h0 : 31 ≤ op) (h1 : op ≤ 31) (hv0 : 0 ≤ v) (hv1 : v < 4294967296) (hr : r = bits .andNot .u32 v (tlI op)) : (0 ≤ r ∧ r < 4294967296) ∧ gRd r = gRd v ∧ gRs1 r = gRs1 v ∧ gI r = gI v := by
  rw [(tab_Iw h0 h1).1, not_m2 hv0 hv1] at hr
  clear h0 h1
  refine ⟨⟨by omega, by omega⟩, ?_, ?_, ?_⟩
  · unfold gRd; omega
  · unfold gRs1; omega
  · have q0 : r / 1048576 = v / 1048576 := by omega
    unfold gI
    rw [q0]
theorem rest_Hw {op v r : Int} (h0 : 32 ≤ op) (h1 : op ≤ 34) (hv0 : 0 ≤ v) (hv1 : v < 4294967296) (hr : r = bits .andNot .u32 v (tlI op)) : (0 ≤ r ∧ r < 4294967296) ∧ gRd r = gRd v ∧ gRs1 r = gRs1 v ∧ gI r = g5 v := by
  rw [(tab_Hw h0 h1).1, not_m4 hv0 hv1] at hr
  clear h0 h1
  refine ⟨⟨by omega, by omega⟩, ?_, ?_, ?_⟩
  · unfold gRd; omega
  · unfold gRs1; omega
  · unfold gI sgn g5
    rw [if_pos (by omega)]
    omega
theorem rest_R {op v r : Int} (h0 : 35 ≤ op) (h1 : op ≤ 49) (hv0 : 0 ≤ v) (hv1 : v < 4294967296) (hr : r = bits .andNot .u32 v (tlI op)) : (0 ≤ r ∧ r < 4294967296) ∧ gRd r = gRd v ∧ gRs1 r = gRs1 v ∧ gRs2 r = gRs2 v := by
  rw [(tab_R h0 h1).1, not_m4 hv0 hv1] at hr
  clear h0 h1
  refine ⟨⟨by omega, by omega⟩, ?_, ?_, ?_⟩
  · unfold gRd; omega
  · unfold gRs1; omega
  · unfold gRs2; omega
theorem rest_C {op v r : Int} (h0 : 54 ≤ op) (h1 : op ≤ 56) (hv0 : 0 ≤ v) (hv1 : v < 4294967296) (hr : r = bits .andNot .u32 v (tlI op)) : (0 ≤ r ∧ r < 4294967296) ∧ gRd r = gRd v ∧ gRs1 r = gRs1 v ∧ gCsr r = gCsr v := by
  rw [(tab_C h0 h1).1, not_m2 hv0 hv1] at hr
  clear h0 h1
  refine ⟨⟨by omega, by omega⟩, ?_, ?_, ?_⟩
  · unfold gRd; omega
  · unfold gRs1; omega
  · unfold gCsr; omega
theorem rest_Ci {op v r : Int} (h0 : 57 ≤ op) (h1 : op ≤ 59) (hv0 : 0 ≤ v) (hv1 : v < 4294967296) (hr : r = bits .andNot .u32 v (tlI op)) : (0 ≤ r ∧ r < 4294967296) ∧ gRd r = gRd v ∧ gRs1 r = gRs1 v ∧ gCsr r = gCsr v := by
  rw [(tab_Ci h0 h1).1, not_m2 hv0 hv1] at hr
  clear h0 h1
  refine ⟨⟨by omega, by omega⟩, ?_, ?_, ?_⟩
  · unfold gRd; omega
  · unfold gRs1; omega
  · unfold gCsr; omega
theorem rest_V {op v r : Int} (h0 : 63 ≤ op) (h1 : op ≤ 65) (hv0 : 0 ≤ v) (hv1 : v < 4294967296) (hr : r = bits .andNot .u32 v (tlI op)) : (0 ≤ r ∧ r < 4294967296) ∧ gRd r = 0 ∧ gRs1 r = gRs1 v ∧ gRs2 r = gRs2 v := by
  rw [(tab_V h0 h1).1, not_m6 hv0 hv1] at hr
  clear h0 h1
  refine ⟨⟨by omega, by omega⟩, ?_, ?_, ?_⟩
  · unfold gRd; omega
  · unfold gRs1; omega
  · unfold gRs2; omega
theorem rest_G {op v r : Int} (h0 : 66 ≤ op) (h1 : op ≤ 67) (hv0 : 0 ≤ v) (hv1 : v < 4294967296) (hr : r = bits .andNot .u32 v (tlI op)) : (0 ≤ r ∧ r < 4294967296) ∧ gRd r = gRd v ∧ gRs1 r = gRs1 v ∧ gRs2 r = 0 := by
  rw [(tab_G h0 h1).1, not_m7 hv0 hv1] at hr
  clear h0 h1
  refine ⟨⟨by omega, by omega⟩, ?_, ?_, ?_⟩
  · unfold gRd; omega
  · unfold gRs1; omega
  · unfold gRs2; omega
theorem rest_X {op v r : Int} (h0 : 68 ≤ op) (h1 : op ≤ 68) (hv0 : 0 ≤ v) (hv1 : v < 4294967296) (hr : r = bits .andNot .u32 v (tlI op)) : (0 ≤ r ∧ r < 4294967296) ∧ gRd r = gRd v ∧ gRs1 r = gRs1 v ∧ gRs2 r = 0 := by
  rw [(tab_X h0 h1).1, not_m7 hv0 hv1] at hr
  clear h0 h1
  refine ⟨⟨by omega, by omega⟩, ?_, ?_, ?_⟩
  · unfold gRd; omega
  · unfold gRs1; omega
  · unfold gRs2; omega
theorem rest_Gs {op v r : Int} (h0 : 69 ≤ op) (h1 : op ≤ 69) (hv0 : 0 ≤ v) (hv1 : v < 4294967296) (hr : r = bits .andNot .u32 v (tlI op)) : (0 ≤ r ∧ r < 4294967296) ∧ gRd r = 0 ∧ gRs1 r = gRs1 v ∧ gRs2 r = gRs2 v := by
  rw [(tab_Gs h0 h1).1, not_m6 hv0 hv1] at hr
  clear h0 h1
  refine ⟨⟨by omega, by omega⟩, ?_, ?_, ?_⟩
  · unfold gRd; omega
  · unfold gRs1; omega
  · unfold gRs2; omega
theorem rest_fix {op v r : Int} (h : 50 ≤ op ∧ op ≤ 53 ∨ 60 ≤ op ∧ op ≤ 62) (hv0 : 0 ≤ v) (hv1 : v < 4294967296) (hr : r = bits .andNot .u32 v (tlI op)) : r = 0 := by
  rw [(tab_fix h).1, not_m5 hv0 hv1] at hr
  exact hr
end Go.Proofs.YtdogjmimjjmmaaaDoor
namespace Go.Proofs.YtdogjmimjjmmaaaDoor
open Go.RowKit
theorem read_at_U (op v r : Int) (h0 : 1 ≤ op) (h1 : op ≤ 2) (hv0 : 0 ≤ v) (hv1 : v < 4294967296) (hr : r = bits .andNot .u32 v (tlI op)) (w : World) (hT : TabI w) :
    Calls Tryd.prog 33 #[.int .i64 op, .int .u64 r] w fun e w' => e = .returned (.agg #[.int .i64 op, .int .i64 (gRdI op v), .int .i64 (gRs1I op v), .int .i64 (gRs2I op v), .int .i64 (gImmI op v), .int .i64 (gCsrI op v)]) ∧ Grown w w' := by
  have hc : clsI op = 1 := (cls_1 (by omega) (by omega)).symm
  have hf : fmtI op = 85 := by
    have := op_cases (p := fun op => 1 ≤ op → op ≤ 2 → fmtI op = 85) (by decide +kernel) (fun op h a c => by omega) op
    exact this h0 h1
  have e1 : gRdI op v = gRd v := by unfold gRdI; rw [show hasRd op = true from decide_eq_true (by omega)]; rfl
  have e2 : gRs1I op v = 0 := by unfold gRs1I; rw [show hasRs1 op = false from decide_eq_false (by omega)]; rfl
  have e3 : gRs2I op v = 0 := by unfold gRs2I; rw [show hasRs2 op = false from decide_eq_false (by omega)]; rfl
  have e4 : gCsrI op v = 0 := by unfold gCsrI; rw [show hasCsr op = false from decide_eq_false (by omega)]; rfl
  have e5 : gImmI op v = gU v := by
    unfold gImmI
    rw [hc]
    repeat rw [if_neg (by omega)]
    rw [if_pos (by omega)]
  obtain ⟨⟨r0, r1⟩, q0, q1⟩ := rest_U h0 h1 hv0 hv1 hr
  rw [e1, e2, e3, e4, e5]
  have h := read_U op r hf r0 r1 w hT
  rw [q0, q1] at h
  exact h
theorem read_at_J (op v r : Int) (h0 : 3 ≤ op) (h1 : op ≤ 3) (hv0 : 0 ≤ v) (hv1 : v < 4294967296) (hr : r = bits .andNot .u32 v (tlI op)) (w : World) (hT : TabI w) :
    Calls Tryd.prog 33 #[.int .i64 op, .int .u64 r] w fun e w' => e = .returned (.agg #[.int .i64 op, .int .i64 (gRdI op v), .int .i64 (gRs1I op v), .int .i64 (gRs2I op v), .int .i64 (gImmI op v), .int .i64 (gCsrI op v)]) ∧ Grown w w' := by
  have hc : clsI op = 1 := (cls_1 (by omega) (by omega)).symm
  have hf : fmtI op = 74 := by
    have := op_cases (p := fun op => 3 ≤ op → op ≤ 3 → fmtI op = 74) (by decide +kernel) (fun op h a c => by omega) op
    exact this h0 h1
  have e1 : gRdI op v = gRd v := by unfold gRdI; rw [show hasRd op = true from decide_eq_true (by omega)]; rfl
  have e2 : gRs1I op v = 0 := by unfold gRs1I; rw [show hasRs1 op = false from decide_eq_false (by omega)]; rfl
  have e3 : gRs2I op v = 0 := by unfold gRs2I; rw [show hasRs2 op = false from decide_eq_false (by omega)]; rfl
  have e4 : gCsrI op v = 0 := by unfold gCsrI; rw [show hasCsr op = false from decide_eq_false (by omega)]; rfl
  have e5 : gImmI op v = gJ v := by
    unfold gImmI
    rw [hc]
    repeat rw [if_neg (by omega)]
    rw [if_pos (by omega)]
  obtain ⟨⟨r0, r1⟩, q0, q1⟩ := rest_J h0 h1 hv0 hv1 hr
  rw [e1, e2, e3, e4, e5]
  have h := read_J op r hf r0 r1 w hT
  rw [q0, q1] at h
  exact h
theorem read_at_Jr (op v r : Int) (h0 : 4 ≤ op) (h1 : op ≤ 4) (hv0 : 0 ≤ v) (hv1 : v < 4294967296) (hr : r = bits .andNot .u32 v (tlI op)) (w : World) (hT : TabI w) :
    Calls Tryd.prog 33 #[.int .i64 op, .int .u64 r] w fun e w' => e = .returned (.agg #[.int .i64 op, .int .i64 (gRdI op v), .int .i64 (gRs1I op v), .int .i64 (gRs2I op v), .int .i64 (gImmI op v), .int .i64 (gCsrI op v)]) ∧ Grown w w' := by
  have hc : clsI op = 1 := (cls_1 (by omega) (by omega)).symm
  have hf : fmtI op = 73 := by
    have := op_cases (p := fun op => 4 ≤ op → op ≤ 4 → fmtI op = 73) (by decide +kernel) (fun op h a c => by omega) op
    exact this h0 h1
  have e1 : gRdI op v = gRd v := by unfold gRdI; rw [show hasRd op = true from decide_eq_true (by omega)]; rfl
  have e2 : gRs1I op v = gRs1 v := by unfold gRs1I; rw [show hasRs1 op = true from decide_eq_true (by omega)]; rfl
  have e3 : gRs2I op v = 0 := by unfold gRs2I; rw [show hasRs2 op = false from decide_eq_false (by omega)]; rfl
  have e4 : gCsrI op v = 0 := by unfold gCsrI; rw [show hasCsr op = false from decide_eq_false (by omega)]; rfl
  have e5 : gImmI op v = gI v := by
    unfold gImmI
    rw [hc]
    repeat rw [if_neg (by omega)]
    rw [if_pos (by omega)]
  obtain ⟨⟨r0, r1⟩, q0, q1, q2⟩ := rest_Jr h0 h1 hv0 hv1 hr
  rw [e1, e2, e3, e4, e5]
  have h := read_I op r hf (by omega) r0 r1 w hT
  rw [q0, q1, q2] at h
  exact h
theorem read_at_B (op v r : Int) (h0 : 5 ≤ op) (h1 : op ≤ 10) (hv0 : 0 ≤ v) (hv1 : v < 4294967296) (hr : r = bits .andNot .u32 v (tlI op)) (w : World) (hT : TabI w) :
    Calls Tryd.prog 33 #[.int .i64 op, .int .u64 r] w fun e w' => e = .returned (.agg #[.int .i64 op, .int .i64 (gRdI op v), .int .i64 (gRs1I op v), .int .i64 (gRs2I op v), .int .i64 (gImmI op v), .int .i64 (gCsrI op v)]) ∧ Grown w w' := by
  have hc : clsI op = 2 := (cls_2 (by omega) (by omega)).symm
  have hf : fmtI op = 66 := by
    have := op_cases (p := fun op => 5 ≤ op → op ≤ 10 → fmtI op = 66) (by decide +kernel) (fun op h a c => by omega) op
    exact this h0 h1
  have e1 : gRdI op v = 0 := by unfold gRdI; rw [show hasRd op = false from decide_eq_false (by omega)]; rfl
  have e2 : gRs1I op v = gRs1 v := by unfold gRs1I; rw [show hasRs1 op = true from decide_eq_true (by omega)]; rfl
  have e3 : gRs2I op v = gRs2 v := by unfold gRs2I; rw [show hasRs2 op = true from decide_eq_true (by omega)]; rfl
  have e4 : gCsrI op v = 0 := by unfold gCsrI; rw [show hasCsr op = false from decide_eq_false (by omega)]; rfl
  have e5 : gImmI op v = gB v := by
    unfold gImmI
    rw [hc]
    repeat rw [if_neg (by omega)]
    rw [if_pos (by omega)]
  obtain ⟨⟨r0, r1⟩, q0, q1, q2⟩ := rest_B h0 h1 hv0 hv1 hr
  rw [e1, e2, e3, e4, e5]
  have h := read_B op r hf r0 r1 w hT
  rw [q0, q1, q2] at h
  exact h
theorem read_at_L (op v r : Int) (h0 : 11 ≤ op) (h1 : op ≤ 17) (hv0 : 0 ≤ v) (hv1 : v < 4294967296) (hr : r = bits .andNot .u32 v (tlI op)) (w : World) (hT : TabI w) :
    Calls Tryd.prog 33 #[.int .i64 op, .int .u64 r] w fun e w' => e = .returned (.agg #[.int .i64 op, .int .i64 (gRdI op v), .int .i64 (gRs1I op v), .int .i64 (gRs2I op v), .int .i64 (gImmI op v), .int .i64 (gCsrI op v)]) ∧ Grown w w' := by
  have hc : clsI op = 3 := (cls_3 (by omega) (by omega)).symm
  have hf : fmtI op = 73 := by
    have := op_cases (p := fun op => 11 ≤ op → op ≤ 17 → fmtI op = 73) (by decide +kernel) (fun op h a c => by omega) op
    exact this h0 h1
  have e1 : gRdI op v = gRd v := by unfold gRdI; rw [show hasRd op = true from decide_eq_true (by omega)]; rfl
  have e2 : gRs1I op v = gRs1 v := by unfold gRs1I; rw [show hasRs1 op = true from decide_eq_true (by omega)]; rfl
  have e3 : gRs2I op v = 0 := by unfold gRs2I; rw [show hasRs2 op = false from decide_eq_false (by omega)]; rfl
  have e4 : gCsrI op v = 0 := by unfold gCsrI; rw [show hasCsr op = false from decide_eq_false (by omega)]; rfl
  have e5 : gImmI op v = gI v := by
    unfold gImmI
    rw [hc]
    repeat rw [if_neg (by omega)]
    rw [if_pos (by omega)]
  obtain ⟨⟨r0, r1⟩, q0, q1, q2⟩ := rest_L h0 h1 hv0 hv1 hr
  rw [e1, e2, e3, e4, e5]
  have h := read_I op r hf (by omega) r0 r1 w hT
  rw [q0, q1, q2] at h
  exact h
theorem read_at_S (op v r : Int) (h0 : 18 ≤ op) (h1 : op ≤ 21) (hv0 : 0 ≤ v) (hv1 : v < 4294967296) (hr : r = bits .andNot .u32 v (tlI op)) (w : World) (hT : TabI w) :
    Calls Tryd.prog 33 #[.int .i64 op, .int .u64 r] w fun e w' => e = .returned (.agg #[.int .i64 op, .int .i64 (gRdI op v), .int .i64 (gRs1I op v), .int .i64 (gRs2I op v), .int .i64 (gImmI op v), .int .i64 (gCsrI op v)]) ∧ Grown w w' := by
  have hc : clsI op = 4 := (cls_4 (by omega) (by omega)).symm
  have hf : fmtI op = 83 := by
    have := op_cases (p := fun op => 18 ≤ op → op ≤ 21 → fmtI op = 83) (by decide +kernel) (fun op h a c => by omega) op
    exact this h0 h1
  have e1 : gRdI op v = 0 := by unfold gRdI; rw [show hasRd op = false from decide_eq_false (by omega)]; rfl
  have e2 : gRs1I op v = gRs1 v := by unfold gRs1I; rw [show hasRs1 op = true from decide_eq_true (by omega)]; rfl
  have e3 : gRs2I op v = gRs2 v := by unfold gRs2I; rw [show hasRs2 op = true from decide_eq_true (by omega)]; rfl
  have e4 : gCsrI op v = 0 := by unfold gCsrI; rw [show hasCsr op = false from decide_eq_false (by omega)]; rfl
  have e5 : gImmI op v = gS v := by
    unfold gImmI
    rw [hc]
    repeat rw [if_neg (by omega)]
    rw [if_pos (by omega)]
  obtain ⟨⟨r0, r1⟩, q0, q1, q2⟩ := rest_S h0 h1 hv0 hv1 hr
  rw [e1, e2, e3, e4, e5]
  have h := read_S op r hf r0 r1 w hT
  rw [q0, q1, q2] at h
  exact h
theorem read_at_I (op v r : Int) (h0 : 22 ≤ op) (h1 : op ≤ 27) (hv0 : 0 ≤ v) (hv1 : v < 4294967296) (hr : r = bits .andNot .u32 v (tlI op)) (w : World) (hT : TabI w) :
    Calls Tryd.prog 33 #[.int .i64 op, .int .u64 r] w fun e w' => e = .returned (.agg #[.int .i64 op, .int .i64 (gRdI op v), .int .i64 (gRs1I op v), .int .i64 (gRs2I op v), .int .i64 (gImmI op v), .int .i64 (gCsrI op v)]) ∧ Grown w w' := by
  have hc : clsI op = 5 := (cls_5 (by omega) (by omega)).symm
  have hf : fmtI op = 73 := by
    have := op_cases (p := fun op => 22 ≤ op → op ≤ 27 → fmtI op = 73) (by decide +kernel) (fun op h a c => by omega) op
    exact this h0 h1
  have e1 : gRdI op v = gRd v := by unfold gRdI; rw [show hasRd op = true from decide_eq_true (by omega)]; rfl
  have e2 : gRs1I op v = gRs1 v := by unfold gRs1I; rw [show hasRs1 op = true from decide_eq_true (by omega)]; rfl
  have e3 : gRs2I op v = 0 := by unfold gRs2I; rw [show hasRs2 op = false from decide_eq_false (by omega)]; rfl
  have e4 : gCsrI op v = 0 := by unfold gCsrI; rw [show hasCsr op = false from decide_eq_false (by omega)]; rfl
  have e5 : gImmI op v = gI v := by
    unfold gImmI
    rw [hc]
    repeat rw [if_neg (by omega)]
    rw [if_pos (by omega)]
  obtain ⟨⟨r0, r1⟩, q0, q1, q2⟩ := rest_I h0 h1 hv0 hv1 hr
  rw [e1, e2, e3, e4, e5]
  have h := read_I op r hf (by omega) r0 r1 w hT
  rw [q0, q1, q2] at h
  exact h
theorem read_at_H (op v r : Int) (h0 : 28 ≤ op) (h1 : op ≤ 30) (hv0 : 0 ≤ v) (hv1 : v < 4294967296) (hr : r = bits .andNot .u32 v (tlI op)) (w : World) (hT : TabI w) :
    Calls Tryd.prog 33 #[.int .i64 op, .int .u64 r] w fun e w' => e = .returned (.agg #[.int .i64 op, .int .i64 (gRdI op v), .int .i64 (gRs1I op v), .int .i64 (gRs2I op v), .int .i64 (gImmI op v), .int .i64 (gCsrI op v)]) ∧ Grown w w' := by
  have hc : clsI op = 5 := (cls_5 (by omega) (by omega)).symm
  have hf : fmtI op = 73 := by
    have := op_cases (p := fun op => 28 ≤ op → op ≤ 30 → fmtI op = 73) (by decide +kernel) (fun op h a c => by omega) op
    exact this h0 h1
  have e1 : gRdI op v = gRd v := by unfold gRdI; rw [show hasRd op = true from decide_eq_true (by omega)]; rfl
  have e2 : gRs1I op v = gRs1 v := by unfold gRs1I; rw [show hasRs1 op = true from decide_eq_true (by omega)]; rfl
  have e3 : gRs2I op v = 0 := by unfold gRs2I; rw [show hasRs2 op = false from decide_eq_false (by omega)]; rfl
  have e4 : gCsrI op v = 0 := by unfold gCsrI; rw [show hasCsr op = false from decide_eq_false (by omega)]; rfl
  have e5 : gImmI op v = g6 v := by
    unfold gImmI
    rw [hc]
    repeat rw [if_neg (by omega)]
    rw [if_pos (by omega)]
  obtain ⟨⟨r0, r1⟩, q0, q1, q2⟩ := rest_H h0 h1 hv0 hv1 hr
  rw [e1, e2, e3, e4, e5]
  have h := read_I op r hf (by omega) r0 r1 w hT
  rw [q0, q1, q2] at h
  exact h
theorem read_at_Iw (op v r : Int) (h0 : 31 ≤ op) (h1 : op ≤ 31) (hv0 : 0 ≤ v) (hv1 : v < 4294967296) (hr : r = bits .andNot .u32 v (tlI op)) (w : World) (hT : TabI w) :
    Calls Tryd.prog 33 #[.int .i64 op, .int .u64 r] w fun e w' => e = .returned (.agg #[.int .i64 op, .int .i64 (gRdI op v), .int .i64 (gRs1I op v), .int .i64 (gRs2I op v), .int .i64 (gImmI op v), .int .i64 (gCsrI op v)]) ∧ Grown w w' := by
  have hc : clsI op = 5 := (cls_5 (by omega) (by omega)).symm
  have hf : fmtI op = 73 := by
    have := op_cases (p := fun op => 31 ≤ op → op ≤ 31 → fmtI op = 73) (by decide +kernel) (fun op h a c => by omega) op
    exact this h0 h1
  have e1 : gRdI op v = gRd v := by unfold gRdI; rw [show hasRd op = true from decide_eq_true (by omega)]; rfl
  have e2 : gRs1I op v = gRs1 v := by unfold gRs1I; rw [show hasRs1 op = true from decide_eq_true (by omega)]; rfl
  have e3 : gRs2I op v = 0 := by unfold gRs2I; rw [show hasRs2 op = false from decide_eq_false (by omega)]; rfl
  have e4 : gCsrI op v = 0 := by unfold gCsrI; rw [show hasCsr op = false from decide_eq_false (by omega)]; rfl
  have e5 : gImmI op v = gI v := by
    unfold gImmI
    rw [hc]
    repeat rw [if_neg (by omega)]
    rw [if_pos (by omega)]
  obtain ⟨⟨r0, r1⟩, q0, q1, q2⟩ := rest_Iw h0 h1 hv0 hv1 hr
  rw [e1, e2, e3, e4, e5]
  have h := read_I op r hf (by omega) r0 r1 w hT
  rw [q0, q1, q2] at h
  exact h
theorem read_at_Hw (op v r : Int) (h0 : 32 ≤ op) (h1 : op ≤ 34) (hv0 : 0 ≤ v) (hv1 : v < 4294967296) (hr : r = bits .andNot .u32 v (tlI op)) (w : World) (hT : TabI w) :
    Calls Tryd.prog 33 #[.int .i64 op, .int .u64 r] w fun e w' => e = .returned (.agg #[.int .i64 op, .int .i64 (gRdI op v), .int .i64 (gRs1I op v), .int .i64 (gRs2I op v), .int .i64 (gImmI op v), .int .i64 (gCsrI op v)]) ∧ Grown w w' := by
  have hc : clsI op = 5 := (cls_5 (by omega) (by omega)).symm
  have hf : fmtI op = 73 := by
    have := op_cases (p := fun op => 32 ≤ op → op ≤ 34 → fmtI op = 73) (by decide +kernel) (fun op h a c => by omega) op
    exact this h0 h1
  have e1 : gRdI op v = gRd v := by unfold gRdI; rw [show hasRd op = true from decide_eq_true (by omega)]; rfl
  have e2 : gRs1I op v = gRs1 v := by unfold gRs1I; rw [show hasRs1 op = true from decide_eq_true (by omega)]; rfl
  have e3 : gRs2I op v = 0 := by unfold gRs2I; rw [show hasRs2 op = false from decide_eq_false (by omega)]; rfl
  have e4 : gCsrI op v = 0 := by unfold gCsrI; rw [show hasCsr op = false from decide_eq_false (by omega)]; rfl
  have e5 : gImmI op v = g5 v := by
    unfold gImmI
    rw [hc]
    repeat rw [if_neg (by omega)]
    rw [if_pos (by omega)]
  obtain ⟨⟨r0, r1⟩, q0, q1, q2⟩ := rest_Hw h0 h1 hv0 hv1 hr
  rw [e1, e2, e3, e4, e5]
  have h := read_I op r hf (by omega) r0 r1 w hT
  rw [q0, q1, q2] at h
  exact h
theorem read_at_R (op v r : Int) (h0 : 35 ≤ op) (h1 : op ≤ 49) (hv0 : 0 ≤ v) (hv1 : v < 4294967296) (hr : r = bits .andNot .u32 v (tlI op)) (w : World) (hT : TabI w) :
    Calls Tryd.prog 33 #[.int .i64 op, .int .u64 r] w fun e w' => e = .returned (.agg #[.int .i64 op, .int .i64 (gRdI op v), .int .i64 (gRs1I op v), .int .i64 (gRs2I op v), .int .i64 (gImmI op v), .int .i64 (gCsrI op v)]) ∧ Grown w w' := by
  have hc : clsI op = 6 := (cls_6 (by omega) (by omega)).symm
  have hf : fmtI op = 82 := by
    have := op_cases (p := fun op => 35 ≤ op → op ≤ 49 → fmtI op = 82) (by decide +kernel) (fun op h a c => by omega) op
    exact this h0 h1
  have e1 : gRdI op v = gRd v := by unfold gRdI; rw [show hasRd op = true from decide_eq_true (by omega)]; rfl
  have e2 : gRs1I op v = gRs1 v := by unfold gRs1I; rw [show hasRs1 op = true from decide_eq_true (by omega)]; rfl
  have e3 : gRs2I op v = gRs2 v := by unfold gRs2I; rw [show hasRs2 op = true from decide_eq_true (by omega)]; rfl
  have e4 : gCsrI op v = 0 := by unfold gCsrI; rw [show hasCsr op = false from decide_eq_false (by omega)]; rfl
  have e5 : gImmI op v = 0 := by
    unfold gImmI
    rw [hc]
    repeat rw [if_neg (by omega)]
  obtain ⟨⟨r0, r1⟩, q0, q1, q2⟩ := rest_R h0 h1 hv0 hv1 hr
  rw [e1, e2, e3, e4, e5]
  have h := read_R op r hf r0 r1 w hT
  rw [q0, q1, q2] at h
  exact h
theorem read_at_C (op v r : Int) (h0 : 54 ≤ op) (h1 : op ≤ 56) (hv0 : 0 ≤ v) (hv1 : v < 4294967296) (hr : r = bits .andNot .u32 v (tlI op)) (w : World) (hT : TabI w) :
    Calls Tryd.prog 33 #[.int .i64 op, .int .u64 r] w fun e w' => e = .returned (.agg #[.int .i64 op, .int .i64 (gRdI op v), .int .i64 (gRs1I op v), .int .i64 (gRs2I op v), .int .i64 (gImmI op v), .int .i64 (gCsrI op v)]) ∧ Grown w w' := by
  have hc : clsI op = 9 := (cls_9 (by omega) (by omega)).symm
  have hf : fmtI op = 73 := by
    have := op_cases (p := fun op => 54 ≤ op → op ≤ 56 → fmtI op = 73) (by decide +kernel) (fun op h a c => by omega) op
    exact this h0 h1
  have e1 : gRdI op v = gRd v := by unfold gRdI; rw [show hasRd op = true from decide_eq_true (by omega)]; rfl
  have e2 : gRs1I op v = gRs1 v := by unfold gRs1I; rw [show hasRs1 op = true from decide_eq_true (by omega)]; rfl
  have e3 : gRs2I op v = 0 := by unfold gRs2I; rw [show hasRs2 op = false from decide_eq_false (by omega)]; rfl
  have e4 : gCsrI op v = gCsr v := by unfold gCsrI; rw [show hasCsr op = true from decide_eq_true (by omega)]; rfl
  have e5 : gImmI op v = 0 := by
    unfold gImmI
    rw [hc]
    repeat rw [if_neg (by omega)]
  obtain ⟨⟨r0, r1⟩, q0, q1, q2⟩ := rest_C h0 h1 hv0 hv1 hr
  rw [e1, e2, e3, e4, e5]
  have h := read_C op r hf (by omega) r0 r1 w hT
  rw [q0, q1, q2] at h
  exact h
theorem read_at_Ci (op v r : Int) (h0 : 57 ≤ op) (h1 : op ≤ 59) (hv0 : 0 ≤ v) (hv1 : v < 4294967296) (hr : r = bits .andNot .u32 v (tlI op)) (w : World) (hT : TabI w) :
    Calls Tryd.prog 33 #[.int .i64 op, .int .u64 r] w fun e w' => e = .returned (.agg #[.int .i64 op, .int .i64 (gRdI op v), .int .i64 (gRs1I op v), .int .i64 (gRs2I op v), .int .i64 (gImmI op v), .int .i64 (gCsrI op v)]) ∧ Grown w w' := by
  have hc : clsI op = 9 := (cls_9 (by omega) (by omega)).symm
  have hf : fmtI op = 73 := by
    have := op_cases (p := fun op => 57 ≤ op → op ≤ 59 → fmtI op = 73) (by decide +kernel) (fun op h a c => by omega) op
    exact this h0 h1
  have e1 : gRdI op v = gRd v := by unfold gRdI; rw [show hasRd op = true from decide_eq_true (by omega)]; rfl
  have e2 : gRs1I op v = 0 := by unfold gRs1I; rw [show hasRs1 op = false from decide_eq_false (by omega)]; rfl
  have e3 : gRs2I op v = 0 := by unfold gRs2I; rw [show hasRs2 op = false from decide_eq_false (by omega)]; rfl
  have e4 : gCsrI op v = gCsr v := by unfold gCsrI; rw [show hasCsr op = true from decide_eq_true (by omega)]; rfl
  have e5 : gImmI op v = gZ v := by
    unfold gImmI
    rw [hc]
    repeat rw [if_neg (by omega)]
    rw [if_pos (by omega)]
  obtain ⟨⟨r0, r1⟩, q0, q1, q2⟩ := rest_Ci h0 h1 hv0 hv1 hr
  rw [e1, e2, e3, e4, e5]
  have h := read_Ci op r hf (by omega) r0 r1 w hT
  rw [q0, q1, q2] at h
  exact h
theorem read_at_V (op v r : Int) (h0 : 63 ≤ op) (h1 : op ≤ 65) (hv0 : 0 ≤ v) (hv1 : v < 4294967296) (hr : r = bits .andNot .u32 v (tlI op)) (w : World) (hT : TabI w) :
    Calls Tryd.prog 33 #[.int .i64 op, .int .u64 r] w fun e w' => e = .returned (.agg #[.int .i64 op, .int .i64 (gRdI op v), .int .i64 (gRs1I op v), .int .i64 (gRs2I op v), .int .i64 (gImmI op v), .int .i64 (gCsrI op v)]) ∧ Grown w w' := by
  have hc : clsI op = 11 := (cls_11 (by omega) (by omega)).symm
  have hf : fmtI op = 82 := by
    have := op_cases (p := fun op => 63 ≤ op → op ≤ 65 → fmtI op = 82) (by decide +kernel) (fun op h a c => by omega) op
    exact this h0 h1
  have e1 : gRdI op v = 0 := by unfold gRdI; rw [show hasRd op = false from decide_eq_false (by omega)]; rfl
  have e2 : gRs1I op v = gRs1 v := by unfold gRs1I; rw [show hasRs1 op = true from decide_eq_true (by omega)]; rfl
  have e3 : gRs2I op v = gRs2 v := by unfold gRs2I; rw [show hasRs2 op = true from decide_eq_true (by omega)]; rfl
  have e4 : gCsrI op v = 0 := by unfold gCsrI; rw [show hasCsr op = false from decide_eq_false (by omega)]; rfl
  have e5 : gImmI op v = 0 := by
    unfold gImmI
    rw [hc]
    repeat rw [if_neg (by omega)]
  obtain ⟨⟨r0, r1⟩, q0, q1, q2⟩ := rest_V h0 h1 hv0 hv1 hr
  rw [e1, e2, e3, e4, e5]
  have h := read_R op r hf r0 r1 w hT
  rw [q0, q1, q2] at h
  exact h
theorem read_at_G (op v r : Int) (h0 : 66 ≤ op) (h1 : op ≤ 67) (hv0 : 0 ≤ v) (hv1 : v < 4294967296) (hr : r = bits .andNot .u32 v (tlI op)) (w : World) (hT : TabI w) :
    Calls Tryd.prog 33 #[.int .i64 op, .int .u64 r] w fun e w' => e = .returned (.agg #[.int .i64 op, .int .i64 (gRdI op v), .int .i64 (gRs1I op v), .int .i64 (gRs2I op v), .int .i64 (gImmI op v), .int .i64 (gCsrI op v)]) ∧ Grown w w' := by
  have hc : clsI op = 12 := (cls_12 (by omega) (by omega)).symm
  have hf : fmtI op = 82 := by
    have := op_cases (p := fun op => 66 ≤ op → op ≤ 67 → fmtI op = 82) (by decide +kernel) (fun op h a c => by omega) op
    exact this h0 h1
  have e1 : gRdI op v = gRd v := by unfold gRdI; rw [show hasRd op = true from decide_eq_true (by omega)]; rfl
  have e2 : gRs1I op v = gRs1 v := by unfold gRs1I; rw [show hasRs1 op = true from decide_eq_true (by omega)]; rfl
  have e3 : gRs2I op v = 0 := by unfold gRs2I; rw [show hasRs2 op = false from decide_eq_false (by omega)]; rfl
  have e4 : gCsrI op v = 0 := by unfold gCsrI; rw [show hasCsr op = false from decide_eq_false (by omega)]; rfl
  have e5 : gImmI op v = 0 := by
    unfold gImmI
    rw [hc]
    repeat rw [if_neg (by omega)]
  obtain ⟨⟨r0, r1⟩, q0, q1, q2⟩ := rest_G h0 h1 hv0 hv1 hr
  rw [e1, e2, e3, e4, e5]
  have h := read_R op r hf r0 r1 w hT
  rw [q0, q1, q2] at h
  exact h
theorem read_at_X (op v r : Int) (h0 : 68 ≤ op) (h1 : op ≤ 68) (hv0 : 0 ≤ v) (hv1 : v < 4294967296) (hr : r = bits .andNot .u32 v (tlI op)) (w : World) (hT : TabI w) :
    Calls Tryd.prog 33 #[.int .i64 op, .int .u64 r] w fun e w' => e = .returned (.agg #[.int .i64 op, .int .i64 (gRdI op v), .int .i64 (gRs1I op v), .int .i64 (gRs2I op v), .int .i64 (gImmI op v), .int .i64 (gCsrI op v)]) ∧ Grown w w' := by
  have hc : clsI op = 12 := (cls_12 (by omega) (by omega)).symm
  have hf : fmtI op = 82 := by
    have := op_cases (p := fun op => 68 ≤ op → op ≤ 68 → fmtI op = 82) (by decide +kernel) (fun op h a c => by omega) op
    exact this h0 h1
  have e1 : gRdI op v = gRd v := by unfold gRdI; rw [show hasRd op = true from decide_eq_true (by omega)]; rfl
  have e2 : gRs1I op v = gRs1 v := by unfold gRs1I; rw [show hasRs1 op = true from decide_eq_true (by omega)]; rfl
  have e3 : gRs2I op v = 0 := by unfold gRs2I; rw [show hasRs2 op = false from decide_eq_false (by omega)]; rfl
  have e4 : gCsrI op v = 0 := by unfold gCsrI; rw [show hasCsr op = false from decide_eq_false (by omega)]; rfl
  have e5 : gImmI op v = 0 := by
    unfold gImmI
    rw [hc]
    repeat rw [if_neg (by omega)]
  obtain ⟨⟨r0, r1⟩, q0, q1, q2⟩ := rest_X h0 h1 hv0 hv1 hr
  rw [e1, e2, e3, e4, e5]
  have h := read_R op r hf r0 r1 w hT
  rw [q0, q1, q2] at h
  exact h
theorem read_at_Gs (op v r : Int) (h0 : 69 ≤ op) (h1 : op ≤ 69) (hv0 : 0 ≤ v) (hv1 : v < 4294967296) (hr : r = bits .andNot .u32 v (tlI op)) (w : World) (hT : TabI w) :
    Calls Tryd.prog 33 #[.int .i64 op, .int .u64 r] w fun e w' => e = .returned (.agg #[.int .i64 op, .int .i64 (gRdI op v), .int .i64 (gRs1I op v), .int .i64 (gRs2I op v), .int .i64 (gImmI op v), .int .i64 (gCsrI op v)]) ∧ Grown w w' := by
  have hc : clsI op = 12 := (cls_12 (by omega) (by omega)).symm
  have hf : fmtI op = 82 := by
    have := op_cases (p := fun op => 69 ≤ op → op ≤ 69 → fmtI op = 82) (by decide +kernel) (fun op h a c => by omega) op
    exact this h0 h1
  have e1 : gRdI op v = 0 := by unfold gRdI; rw [show hasRd op = false from decide_eq_false (by omega)]; rfl
  have e2 : gRs1I op v = gRs1 v := by unfold gRs1I; rw [show hasRs1 op = true from decide_eq_true (by omega)]; rfl
  have e3 : gRs2I op v = gRs2 v := by unfold gRs2I; rw [show hasRs2 op = true from decide_eq_true (by omega)]; rfl
  have e4 : gCsrI op v = 0 := by unfold gCsrI; rw [show hasCsr op = false from decide_eq_false (by omega)]; rfl
  have e5 : gImmI op v = 0 := by
    unfold gImmI
    rw [hc]
    repeat rw [if_neg (by omega)]
  obtain ⟨⟨r0, r1⟩, q0, q1, q2⟩ := rest_Gs h0 h1 hv0 hv1 hr
  rw [e1, e2, e3, e4, e5]
  have h := read_R op r hf r0 r1 w hT
  rw [q0, q1, q2] at h
  exact h
theorem read_at_F (op v r : Int) (h0 : 50 ≤ op) (h1 : op ≤ 51) (hv0 : 0 ≤ v) (hv1 : v < 4294967296) (hr : r = bits .andNot .u32 v (tlI op)) (w : World) (hT : TabI w) :
    Calls Tryd.prog 33 #[.int .i64 op, .int .u64 r] w fun e w' => e = .returned (.agg #[.int .i64 op, .int .i64 (gRdI op v), .int .i64 (gRs1I op v), .int .i64 (gRs2I op v), .int .i64 (gImmI op v), .int .i64 (gCsrI op v)]) ∧ Grown w w' := by
  have hc : clsI op = 7 := (cls_7 (by omega) (by omega)).symm
  have hf : fmtI op = 73 := by
    have := op_cases (p := fun op => 50 ≤ op → op ≤ 51 → fmtI op = 73) (by decide +kernel) (fun op h a c => by omega) op
    exact this h0 h1
  have e1 : gRdI op v = 0 := by unfold gRdI; rw [show hasRd op = false from decide_eq_false (by omega)]; rfl
  have e2 : gRs1I op v = 0 := by unfold gRs1I; rw [show hasRs1 op = false from decide_eq_false (by omega)]; rfl
  have e3 : gRs2I op v = 0 := by unfold gRs2I; rw [show hasRs2 op = false from decide_eq_false (by omega)]; rfl
  have e4 : gCsrI op v = 0 := by unfold gCsrI; rw [show hasCsr op = false from decide_eq_false (by omega)]; rfl
  have e5 : gImmI op v = 0 := by
    unfold gImmI
    rw [hc]
    repeat rw [if_neg (by omega)]
  obtain rfl := rest_fix (by omega) hv0 hv1 hr
  rw [e1, e2, e3, e4, e5]
  exact read_I op 0 hf (by omega) (by omega) (by omega) w hT
theorem read_at_E (op v r : Int) (h0 : 52 ≤ op) (h1 : op ≤ 53) (hv0 : 0 ≤ v) (hv1 : v < 4294967296) (hr : r = bits .andNot .u32 v (tlI op)) (w : World) (hT : TabI w) :
    Calls Tryd.prog 33 #[.int .i64 op, .int .u64 r] w fun e w' => e = .returned (.agg #[.int .i64 op, .int .i64 (gRdI op v), .int .i64 (gRs1I op v), .int .i64 (gRs2I op v), .int .i64 (gImmI op v), .int .i64 (gCsrI op v)]) ∧ Grown w w' := by
  have hc : clsI op = 8 := (cls_8 (by omega) (by omega)).symm
  have hf : fmtI op = 73 := by
    have := op_cases (p := fun op => 52 ≤ op → op ≤ 53 → fmtI op = 73) (by decide +kernel) (fun op h a c => by omega) op
    exact this h0 h1
  have e1 : gRdI op v = 0 := by unfold gRdI; rw [show hasRd op = false from decide_eq_false (by omega)]; rfl
  have e2 : gRs1I op v = 0 := by unfold gRs1I; rw [show hasRs1 op = false from decide_eq_false (by omega)]; rfl
  have e3 : gRs2I op v = 0 := by unfold gRs2I; rw [show hasRs2 op = false from decide_eq_false (by omega)]; rfl
  have e4 : gCsrI op v = 0 := by unfold gCsrI; rw [show hasCsr op = false from decide_eq_false (by omega)]; rfl
  have e5 : gImmI op v = 0 := by
    unfold gImmI
    rw [hc]
    repeat rw [if_neg (by omega)]
  obtain rfl := rest_fix (by omega) hv0 hv1 hr
  rw [e1, e2, e3, e4, e5]
  exact read_I op 0 hf (by omega) (by omega) (by omega) w hT
theorem read_at_M (op v r : Int) (h0 : 60 ≤ op) (h1 : op ≤ 62) (hv0 : 0 ≤ v) (hv1 : v < 4294967296) (hr : r = bits .andNot .u32 v (tlI op)) (w : World) (hT : TabI w) :
    Calls Tryd.prog 33 #[.int .i64 op, .int .u64 r] w fun e w' => e = .returned (.agg #[.int .i64 op, .int .i64 (gRdI op v), .int .i64 (gRs1I op v), .int .i64 (gRs2I op v), .int .i64 (gImmI op v), .int .i64 (gCsrI op v)]) ∧ Grown w w' := by
  have hc : clsI op = 10 := (cls_10 (by omega) (by omega)).symm
  have hf : fmtI op = 73 := by
    have := op_cases (p := fun op => 60 ≤ op → op ≤ 62 → fmtI op = 73) (by decide +kernel) (fun op h a c => by omega) op
    exact this h0 h1
  have e1 : gRdI op v = 0 := by unfold gRdI; rw [show hasRd op = false from decide_eq_false (by omega)]; rfl
  have e2 : gRs1I op v = 0 := by unfold gRs1I; rw [show hasRs1 op = false from decide_eq_false (by omega)]; rfl
  have e3 : gRs2I op v = 0 := by unfold gRs2I; rw [show hasRs2 op = false from decide_eq_false (by omega)]; rfl
  have e4 : gCsrI op v = 0 := by unfold gCsrI; rw [show hasCsr op = false from decide_eq_false (by omega)]; rfl
  have e5 : gImmI op v = 0 := by
    unfold gImmI
    rw [hc]
    repeat rw [if_neg (by omega)]
  obtain rfl := rest_fix (by omega) hv0 hv1 hr
  rw [e1, e2, e3, e4, e5]
  exact read_I op 0 hf (by omega) (by omega) (by omega) w hT
theorem read_at (op v r : Int) (h0 : 1 ≤ op) (h1 : op < 70) (hv0 : 0 ≤ v) (hv1 : v < 4294967296) (hr : r = bits .andNot .u32 v (tlI op)) (w : World) (hT : TabI w) :
    Calls Tryd.prog 33 #[.int .i64 op, .int .u64 r] w fun e w' => e = .returned (.agg #[.int .i64 op, .int .i64 (gRdI op v), .int .i64 (gRs1I op v), .int .i64 (gRs2I op v), .int .i64 (gImmI op v), .int .i64 (gCsrI op v)]) ∧ Grown w w' := by
  by_cases cU : op ≤ 2
  · exact read_at_U op v r (by omega) cU hv0 hv1 hr w hT
  by_cases cJ : op ≤ 3
  · exact read_at_J op v r (by omega) cJ hv0 hv1 hr w hT
  by_cases cJr : op ≤ 4
  · exact read_at_Jr op v r (by omega) cJr hv0 hv1 hr w hT
  by_cases cB : op ≤ 10
  · exact read_at_B op v r (by omega) cB hv0 hv1 hr w hT
  by_cases cL : op ≤ 17
  · exact read_at_L op v r (by omega) cL hv0 hv1 hr w hT
  by_cases cS : op ≤ 21
  · exact read_at_S op v r (by omega) cS hv0 hv1 hr w hT
  by_cases cI : op ≤ 27
  · exact read_at_I op v r (by omega) cI hv0 hv1 hr w hT
  by_cases cH : op ≤ 30
  · exact read_at_H op v r (by omega) cH hv0 hv1 hr w hT
  by_cases cIw : op ≤ 31
  · exact read_at_Iw op v r (by omega) cIw hv0 hv1 hr w hT
  by_cases cHw : op ≤ 34
  · exact read_at_Hw op v r (by omega) cHw hv0 hv1 hr w hT
  by_cases cR : op ≤ 49
  · exact read_at_R op v r (by omega) cR hv0 hv1 hr w hT
  by_cases cF : op ≤ 51
  · exact read_at_F op v r (by omega) cF hv0 hv1 hr w hT
  by_cases cE : op ≤ 53
  · exact read_at_E op v r (by omega) cE hv0 hv1 hr w hT
  by_cases cC : op ≤ 56
  · exact read_at_C op v r (by omega) cC hv0 hv1 hr w hT
  by_cases cCi : op ≤ 59
  · exact read_at_Ci op v r (by omega) cCi hv0 hv1 hr w hT
  by_cases cM : op ≤ 62
  · exact read_at_M op v r (by omega) cM hv0 hv1 hr w hT
  by_cases cV : op ≤ 65
  · exact read_at_V op v r (by omega) cV hv0 hv1 hr w hT
  by_cases cG : op ≤ 67
  · exact read_at_G op v r (by omega) cG hv0 hv1 hr w hT
  by_cases cX : op ≤ 68
  · exact read_at_X op v r (by omega) cX hv0 hv1 hr w hT
  exact read_at_Gs op v r (by omega) (by omega) hv0 hv1 hr w hT
end Go.Proofs.YtdogjmimjjmmaaaDoor
