/-
  What tells an operation in package decode's tables is what the document's words of it have.
-/
import Derived.Test.YtbcmklojfmenjaaDoorDecTab
import Derived.Test.YtbcmklojfmenjaaDoorDecMask
import Derived.Test.YtbcmklojfmenjaaDoorHitsB
import Derived.Test.YtbcmklojfmenjaaDoorHitsC
import Derived.Test.YtbcmklojfmenjaaDoorHitsD
namespace Go.Proofs.YtbcmklojfmenjaaDoor
open Go.RowKit
theorem tab_U {op : Int} (h0 : 1 ≤ op) (h1 : op ≤ 2) : tlI op = 127 ∧ hdI op = opcI op := by
  have := op_cases (p := fun op => 1 ≤ op → op ≤ 2 → tlI op = 127 ∧ hdI op = opcI op) (by decide +kernel) (fun op h a c => by omega) op
  exact this h0 h1
theorem tell_U (op v : Int) (h0 : 1 ≤ op) (h1 : op ≤ 2) (hv0 : 0 ≤ v) (hv1 : v < 4294967296) : tellB op v = hitB op v := by
  obtain ⟨t0, t1⟩ := tab_U h0 h1
  obtain ⟨o0, o1, o2, o3, o4, o5⟩ := codes_bd op
  rw [hit_U op v h0 h1 hv0 hv1]
  unfold tellB
  rw [t0, t1, and_m1 hv0 hv1]
theorem tab_J {op : Int} (h0 : 3 ≤ op) (h1 : op ≤ 3) : tlI op = 127 ∧ hdI op = opcI op := by
  have := op_cases (p := fun op => 3 ≤ op → op ≤ 3 → tlI op = 127 ∧ hdI op = opcI op) (by decide +kernel) (fun op h a c => by omega) op
  exact this h0 h1
theorem tell_J (op v : Int) (h0 : 3 ≤ op) (h1 : op ≤ 3) (hv0 : 0 ≤ v) (hv1 : v < 4294967296) : tellB op v = hitB op v := by
  obtain ⟨t0, t1⟩ := tab_J h0 h1
  obtain ⟨o0, o1, o2, o3, o4, o5⟩ := codes_bd op
  rw [hit_J op v h0 h1 hv0 hv1]
  unfold tellB
  rw [t0, t1, and_m1 hv0 hv1]
theorem tab_Jr {op : Int} (h0 : 4 ≤ op) (h1 : op ≤ 4) : tlI op = 28799 ∧ hdI op = opcI op + f3I op * 4096 := by
  have := op_cases (p := fun op => 4 ≤ op → op ≤ 4 → tlI op = 28799 ∧ hdI op = opcI op + f3I op * 4096) (by decide +kernel) (fun op h a c => by omega) op
  exact this h0 h1
theorem tell_Jr (op v : Int) (h0 : 4 ≤ op) (h1 : op ≤ 4) (hv0 : 0 ≤ v) (hv1 : v < 4294967296) : tellB op v = hitB op v := by
  obtain ⟨t0, t1⟩ := tab_Jr h0 h1
  obtain ⟨o0, o1, o2, o3, o4, o5⟩ := codes_bd op
  rw [hit_Jr op v h0 h1 hv0 hv1]
  unfold tellB
  rw [t0, t1, and_m2 hv0 hv1]
  have b0 : 0 ≤ v % 128 ∧ v % 128 < 128 := by omega
  have b1 : 0 ≤ v / 4096 % 8 ∧ v / 4096 % 8 < 8 := by omega
  clear hv0 hv1
  generalize v / 4096 % 8 = y1 at *
  generalize v % 128 = y0 at *
  apply Bool.eq_iff_iff.2
  simp
  omega
theorem tab_B {op : Int} (h0 : 5 ≤ op) (h1 : op ≤ 10) : tlI op = 28799 ∧ hdI op = opcI op + f3I op * 4096 := by
  have := op_cases (p := fun op => 5 ≤ op → op ≤ 10 → tlI op = 28799 ∧ hdI op = opcI op + f3I op * 4096) (by decide +kernel) (fun op h a c => by omega) op
  exact this h0 h1
theorem tell_B (op v : Int) (h0 : 5 ≤ op) (h1 : op ≤ 10) (hv0 : 0 ≤ v) (hv1 : v < 4294967296) : tellB op v = hitB op v := by
  obtain ⟨t0, t1⟩ := tab_B h0 h1
  obtain ⟨o0, o1, o2, o3, o4, o5⟩ := codes_bd op
  rw [hit_B op v h0 h1 hv0 hv1]
  unfold tellB
  rw [t0, t1, and_m2 hv0 hv1]
  have b0 : 0 ≤ v % 128 ∧ v % 128 < 128 := by omega
  have b1 : 0 ≤ v / 4096 % 8 ∧ v / 4096 % 8 < 8 := by omega
  clear hv0 hv1
  generalize v / 4096 % 8 = y1 at *
  generalize v % 128 = y0 at *
  apply Bool.eq_iff_iff.2
  simp
  omega
theorem tab_L {op : Int} (h0 : 11 ≤ op) (h1 : op ≤ 17) : tlI op = 28799 ∧ hdI op = opcI op + f3I op * 4096 := by
  have := op_cases (p := fun op => 11 ≤ op → op ≤ 17 → tlI op = 28799 ∧ hdI op = opcI op + f3I op * 4096) (by decide +kernel) (fun op h a c => by omega) op
  exact this h0 h1
theorem tell_L (op v : Int) (h0 : 11 ≤ op) (h1 : op ≤ 17) (hv0 : 0 ≤ v) (hv1 : v < 4294967296) : tellB op v = hitB op v := by
  obtain ⟨t0, t1⟩ := tab_L h0 h1
  obtain ⟨o0, o1, o2, o3, o4, o5⟩ := codes_bd op
  rw [hit_L op v h0 h1 hv0 hv1]
  unfold tellB
  rw [t0, t1, and_m2 hv0 hv1]
  have b0 : 0 ≤ v % 128 ∧ v % 128 < 128 := by omega
  have b1 : 0 ≤ v / 4096 % 8 ∧ v / 4096 % 8 < 8 := by omega
  clear hv0 hv1
  generalize v / 4096 % 8 = y1 at *
  generalize v % 128 = y0 at *
  apply Bool.eq_iff_iff.2
  simp
  omega
theorem tab_S {op : Int} (h0 : 18 ≤ op) (h1 : op ≤ 21) : tlI op = 28799 ∧ hdI op = opcI op + f3I op * 4096 := by
  have := op_cases (p := fun op => 18 ≤ op → op ≤ 21 → tlI op = 28799 ∧ hdI op = opcI op + f3I op * 4096) (by decide +kernel) (fun op h a c => by omega) op
  exact this h0 h1
theorem tell_S (op v : Int) (h0 : 18 ≤ op) (h1 : op ≤ 21) (hv0 : 0 ≤ v) (hv1 : v < 4294967296) : tellB op v = hitB op v := by
  obtain ⟨t0, t1⟩ := tab_S h0 h1
  obtain ⟨o0, o1, o2, o3, o4, o5⟩ := codes_bd op
  rw [hit_S op v h0 h1 hv0 hv1]
  unfold tellB
  rw [t0, t1, and_m2 hv0 hv1]
  have b0 : 0 ≤ v % 128 ∧ v % 128 < 128 := by omega
  have b1 : 0 ≤ v / 4096 % 8 ∧ v / 4096 % 8 < 8 := by omega
  clear hv0 hv1
  generalize v / 4096 % 8 = y1 at *
  generalize v % 128 = y0 at *
  apply Bool.eq_iff_iff.2
  simp
  omega
theorem tab_I {op : Int} (h0 : 22 ≤ op) (h1 : op ≤ 27) : tlI op = 28799 ∧ hdI op = opcI op + f3I op * 4096 := by
  have := op_cases (p := fun op => 22 ≤ op → op ≤ 27 → tlI op = 28799 ∧ hdI op = opcI op + f3I op * 4096) (by decide +kernel) (fun op h a c => by omega) op
  exact this h0 h1
theorem tell_I (op v : Int) (h0 : 22 ≤ op) (h1 : op ≤ 27) (hv0 : 0 ≤ v) (hv1 : v < 4294967296) : tellB op v = hitB op v := by
  obtain ⟨t0, t1⟩ := tab_I h0 h1
  obtain ⟨o0, o1, o2, o3, o4, o5⟩ := codes_bd op
  rw [hit_I op v h0 h1 hv0 hv1]
  unfold tellB
  rw [t0, t1, and_m2 hv0 hv1]
  have b0 : 0 ≤ v % 128 ∧ v % 128 < 128 := by omega
  have b1 : 0 ≤ v / 4096 % 8 ∧ v / 4096 % 8 < 8 := by omega
  clear hv0 hv1
  generalize v / 4096 % 8 = y1 at *
  generalize v % 128 = y0 at *
  apply Bool.eq_iff_iff.2
  simp
  omega
theorem tab_H {op : Int} (h0 : 28 ≤ op) (h1 : op ≤ 30) : tlI op = 4227887231 ∧ hdI op = opcI op + f3I op * 4096 + f7I op * 33554432 := by
  have := op_cases (p := fun op => 28 ≤ op → op ≤ 30 → tlI op = 4227887231 ∧ hdI op = opcI op + f3I op * 4096 + f7I op * 33554432) (by decide +kernel) (fun op h a c => by omega) op
  exact this h0 h1
theorem tell_H (op v : Int) (h0 : 28 ≤ op) (h1 : op ≤ 30) (hv0 : 0 ≤ v) (hv1 : v < 4294967296) : tellB op v = hitB op v := by
  obtain ⟨t0, t1⟩ := tab_H h0 h1
  obtain ⟨o0, o1, o2, o3, o4, o5⟩ := codes_bd op
  have hev : f7I op % 2 = 0 := codes_even (by omega)
  rw [hit_H op v h0 h1 hv0 hv1]
  unfold tellB
  rw [t0, t1, and_m3 hv0 hv1]
  have b0 : 0 ≤ v % 128 ∧ v % 128 < 128 := by omega
  have b1 : 0 ≤ v / 4096 % 8 ∧ v / 4096 % 8 < 8 := by omega
  have b2 : 0 ≤ v / 67108864 ∧ v / 67108864 < 64 := by omega
  clear hv0 hv1
  generalize v / 4096 % 8 = y1 at *
  generalize v / 67108864 = y2 at *
  generalize v % 128 = y0 at *
  apply Bool.eq_iff_iff.2
  simp
  omega
theorem tab_Iw {op : Int} (h0 : 31 ≤ op) (h1 : op ≤ 31) : tlI op = 28799 ∧ hdI op = opcI op + f3I op * 4096 := by
  have := op_cases (p := fun op => 31 ≤ op → op ≤ 31 → tlI op = 28799 ∧ hdI op = opcI op + f3I op * 4096) (by decide +kernel) (fun op h a c => by omega) op
  exact this h0 h1
theorem tell_Iw (op v : Int) (h0 : 31 ≤ op) (h1 : op ≤ 31) (hv0 : 0 ≤ v) (hv1 : v < 4294967296) : tellB op v = hitB op v := by
  obtain ⟨t0, t1⟩ := tab_Iw h0 h1
  obtain ⟨o0, o1, o2, o3, o4, o5⟩ := codes_bd op
  rw [hit_Iw op v h0 h1 hv0 hv1]
  unfold tellB
  rw [t0, t1, and_m2 hv0 hv1]
  have b0 : 0 ≤ v % 128 ∧ v % 128 < 128 := by omega
  have b1 : 0 ≤ v / 4096 % 8 ∧ v / 4096 % 8 < 8 := by omega
  clear hv0 hv1
  generalize v / 4096 % 8 = y1 at *
  generalize v % 128 = y0 at *
  apply Bool.eq_iff_iff.2
  simp
  omega
theorem tab_Hw {op : Int} (h0 : 32 ≤ op) (h1 : op ≤ 34) : tlI op = 4261441663 ∧ hdI op = opcI op + f3I op * 4096 + f7I op * 33554432 := by
  have := op_cases (p := fun op => 32 ≤ op → op ≤ 34 → tlI op = 4261441663 ∧ hdI op = opcI op + f3I op * 4096 + f7I op * 33554432) (by decide +kernel) (fun op h a c => by omega) op
  exact this h0 h1
theorem tell_Hw (op v : Int) (h0 : 32 ≤ op) (h1 : op ≤ 34) (hv0 : 0 ≤ v) (hv1 : v < 4294967296) : tellB op v = hitB op v := by
  obtain ⟨t0, t1⟩ := tab_Hw h0 h1
  obtain ⟨o0, o1, o2, o3, o4, o5⟩ := codes_bd op
  have hev : f7I op % 2 = 0 := codes_even (by omega)
  rw [hit_Hw op v h0 h1 hv0 hv1]
  unfold tellB
  rw [t0, t1, and_m4 hv0 hv1]
  have b0 : 0 ≤ v % 128 ∧ v % 128 < 128 := by omega
  have b1 : 0 ≤ v / 4096 % 8 ∧ v / 4096 % 8 < 8 := by omega
  have b2 : 0 ≤ v / 33554432 ∧ v / 33554432 < 128 := by omega
  clear hv0 hv1
  generalize v / 4096 % 8 = y1 at *
  generalize v / 33554432 = y2 at *
  generalize v % 128 = y0 at *
  apply Bool.eq_iff_iff.2
  simp
  omega
theorem tab_R {op : Int} (h0 : 35 ≤ op) (h1 : op ≤ 49) : tlI op = 4261441663 ∧ hdI op = opcI op + f3I op * 4096 + f7I op * 33554432 := by
  have := op_cases (p := fun op => 35 ≤ op → op ≤ 49 → tlI op = 4261441663 ∧ hdI op = opcI op + f3I op * 4096 + f7I op * 33554432) (by decide +kernel) (fun op h a c => by omega) op
  exact this h0 h1
theorem tell_R (op v : Int) (h0 : 35 ≤ op) (h1 : op ≤ 49) (hv0 : 0 ≤ v) (hv1 : v < 4294967296) : tellB op v = hitB op v := by
  obtain ⟨t0, t1⟩ := tab_R h0 h1
  obtain ⟨o0, o1, o2, o3, o4, o5⟩ := codes_bd op
  rw [hit_R op v h0 h1 hv0 hv1]
  unfold tellB
  rw [t0, t1, and_m4 hv0 hv1]
  have b0 : 0 ≤ v % 128 ∧ v % 128 < 128 := by omega
  have b1 : 0 ≤ v / 4096 % 8 ∧ v / 4096 % 8 < 8 := by omega
  have b2 : 0 ≤ v / 33554432 ∧ v / 33554432 < 128 := by omega
  clear hv0 hv1
  generalize v / 4096 % 8 = y1 at *
  generalize v / 33554432 = y2 at *
  generalize v % 128 = y0 at *
  apply Bool.eq_iff_iff.2
  simp
  omega
theorem tab_C {op : Int} (h0 : 54 ≤ op) (h1 : op ≤ 56) : tlI op = 28799 ∧ hdI op = opcI op + f3I op * 4096 := by
  have := op_cases (p := fun op => 54 ≤ op → op ≤ 56 → tlI op = 28799 ∧ hdI op = opcI op + f3I op * 4096) (by decide +kernel) (fun op h a c => by omega) op
  exact this h0 h1
theorem tell_C (op v : Int) (h0 : 54 ≤ op) (h1 : op ≤ 56) (hv0 : 0 ≤ v) (hv1 : v < 4294967296) : tellB op v = hitB op v := by
  obtain ⟨t0, t1⟩ := tab_C h0 h1
  obtain ⟨o0, o1, o2, o3, o4, o5⟩ := codes_bd op
  rw [hit_C op v h0 h1 hv0 hv1]
  unfold tellB
  rw [t0, t1, and_m2 hv0 hv1]
  have b0 : 0 ≤ v % 128 ∧ v % 128 < 128 := by omega
  have b1 : 0 ≤ v / 4096 % 8 ∧ v / 4096 % 8 < 8 := by omega
  clear hv0 hv1
  generalize v / 4096 % 8 = y1 at *
  generalize v % 128 = y0 at *
  apply Bool.eq_iff_iff.2
  simp
  omega
theorem tab_Ci {op : Int} (h0 : 57 ≤ op) (h1 : op ≤ 59) : tlI op = 28799 ∧ hdI op = opcI op + f3I op * 4096 := by
  have := op_cases (p := fun op => 57 ≤ op → op ≤ 59 → tlI op = 28799 ∧ hdI op = opcI op + f3I op * 4096) (by decide +kernel) (fun op h a c => by omega) op
  exact this h0 h1
theorem tell_Ci (op v : Int) (h0 : 57 ≤ op) (h1 : op ≤ 59) (hv0 : 0 ≤ v) (hv1 : v < 4294967296) : tellB op v = hitB op v := by
  obtain ⟨t0, t1⟩ := tab_Ci h0 h1
  obtain ⟨o0, o1, o2, o3, o4, o5⟩ := codes_bd op
  rw [hit_Ci op v h0 h1 hv0 hv1]
  unfold tellB
  rw [t0, t1, and_m2 hv0 hv1]
  have b0 : 0 ≤ v % 128 ∧ v % 128 < 128 := by omega
  have b1 : 0 ≤ v / 4096 % 8 ∧ v / 4096 % 8 < 8 := by omega
  clear hv0 hv1
  generalize v / 4096 % 8 = y1 at *
  generalize v % 128 = y0 at *
  apply Bool.eq_iff_iff.2
  simp
  omega
theorem tab_V {op : Int} (h0 : 63 ≤ op) (h1 : op ≤ 65) : tlI op = 4261445631 ∧ hdI op = opcI op + f3I op * 4096 + f7I op * 33554432 := by
  have := op_cases (p := fun op => 63 ≤ op → op ≤ 65 → tlI op = 4261445631 ∧ hdI op = opcI op + f3I op * 4096 + f7I op * 33554432) (by decide +kernel) (fun op h a c => by omega) op
  exact this h0 h1
theorem tell_V (op v : Int) (h0 : 63 ≤ op) (h1 : op ≤ 65) (hv0 : 0 ≤ v) (hv1 : v < 4294967296) : tellB op v = hitB op v := by
  obtain ⟨t0, t1⟩ := tab_V h0 h1
  obtain ⟨o0, o1, o2, o3, o4, o5⟩ := codes_bd op
  rw [hit_V op v h0 h1 hv0 hv1]
  unfold tellB
  rw [t0, t1, and_m6 hv0 hv1]
  have b0 : 0 ≤ v % 128 ∧ v % 128 < 128 := by omega
  have b1 : 0 ≤ v / 128 % 32 ∧ v / 128 % 32 < 32 := by omega
  have b2 : 0 ≤ v / 4096 % 8 ∧ v / 4096 % 8 < 8 := by omega
  have b3 : 0 ≤ v / 33554432 ∧ v / 33554432 < 128 := by omega
  clear hv0 hv1
  generalize v / 128 % 32 = y1 at *
  generalize v / 4096 % 8 = y2 at *
  generalize v / 33554432 = y3 at *
  generalize v % 128 = y0 at *
  apply Bool.eq_iff_iff.2
  simp
  omega
theorem tab_G {op : Int} (h0 : 66 ≤ op) (h1 : op ≤ 67) : tlI op = 4293947519 ∧ hdI op = opcI op + f3I op * 4096 + f7I op * 33554432 := by
  have := op_cases (p := fun op => 66 ≤ op → op ≤ 67 → tlI op = 4293947519 ∧ hdI op = opcI op + f3I op * 4096 + f7I op * 33554432) (by decide +kernel) (fun op h a c => by omega) op
  exact this h0 h1
theorem tell_G (op v : Int) (h0 : 66 ≤ op) (h1 : op ≤ 67) (hv0 : 0 ≤ v) (hv1 : v < 4294967296) : tellB op v = hitB op v := by
  obtain ⟨t0, t1⟩ := tab_G h0 h1
  obtain ⟨o0, o1, o2, o3, o4, o5⟩ := codes_bd op
  rw [hit_G op v h0 h1 hv0 hv1]
  unfold tellB
  rw [t0, t1, and_m7 hv0 hv1]
  have b0 : 0 ≤ v % 128 ∧ v % 128 < 128 := by omega
  have b1 : 0 ≤ v / 4096 % 8 ∧ v / 4096 % 8 < 8 := by omega
  have b2 : 0 ≤ v / 1048576 % 32 ∧ v / 1048576 % 32 < 32 := by omega
  have b3 : 0 ≤ v / 33554432 ∧ v / 33554432 < 128 := by omega
  clear hv0 hv1
  generalize v / 1048576 % 32 = y2 at *
  generalize v / 4096 % 8 = y1 at *
  generalize v / 33554432 = y3 at *
  generalize v % 128 = y0 at *
  apply Bool.eq_iff_iff.2
  simp
  omega
theorem tab_X {op : Int} (h0 : 68 ≤ op) (h1 : op ≤ 68) : tlI op = 4293947519 ∧ hdI op = opcI op + f3I op * 4096 + 3145728 + f7I op * 33554432 := by
  have := op_cases (p := fun op => 68 ≤ op → op ≤ 68 → tlI op = 4293947519 ∧ hdI op = opcI op + f3I op * 4096 + 3145728 + f7I op * 33554432) (by decide +kernel) (fun op h a c => by omega) op
  exact this h0 h1
theorem tell_X (op v : Int) (h0 : 68 ≤ op) (h1 : op ≤ 68) (hv0 : 0 ≤ v) (hv1 : v < 4294967296) : tellB op v = hitB op v := by
  obtain ⟨t0, t1⟩ := tab_X h0 h1
  obtain ⟨o0, o1, o2, o3, o4, o5⟩ := codes_bd op
  rw [hit_X op v h0 h1 hv0 hv1]
  unfold tellB
  rw [t0, t1, and_m7 hv0 hv1]
  have b0 : 0 ≤ v % 128 ∧ v % 128 < 128 := by omega
  have b1 : 0 ≤ v / 4096 % 8 ∧ v / 4096 % 8 < 8 := by omega
  have b2 : 0 ≤ v / 1048576 % 32 ∧ v / 1048576 % 32 < 32 := by omega
  have b3 : 0 ≤ v / 33554432 ∧ v / 33554432 < 128 := by omega
  clear hv0 hv1
  generalize v / 1048576 % 32 = y2 at *
  generalize v / 4096 % 8 = y1 at *
  generalize v / 33554432 = y3 at *
  generalize v % 128 = y0 at *
  apply Bool.eq_iff_iff.2
  simp
  omega
theorem tab_Gs {op : Int} (h0 : 69 ≤ op) (h1 : op ≤ 69) : tlI op = 4261445631 ∧ hdI op = opcI op + f3I op * 4096 + f7I op * 33554432 := by
  have := op_cases (p := fun op => 69 ≤ op → op ≤ 69 → tlI op = 4261445631 ∧ hdI op = opcI op + f3I op * 4096 + f7I op * 33554432) (by decide +kernel) (fun op h a c => by omega) op
  exact this h0 h1
theorem tell_Gs (op v : Int) (h0 : 69 ≤ op) (h1 : op ≤ 69) (hv0 : 0 ≤ v) (hv1 : v < 4294967296) : tellB op v = hitB op v := by
  obtain ⟨t0, t1⟩ := tab_Gs h0 h1
  obtain ⟨o0, o1, o2, o3, o4, o5⟩ := codes_bd op
  rw [hit_Gs op v h0 h1 hv0 hv1]
  unfold tellB
  rw [t0, t1, and_m6 hv0 hv1]
  have b0 : 0 ≤ v % 128 ∧ v % 128 < 128 := by omega
  have b1 : 0 ≤ v / 128 % 32 ∧ v / 128 % 32 < 32 := by omega
  have b2 : 0 ≤ v / 4096 % 8 ∧ v / 4096 % 8 < 8 := by omega
  have b3 : 0 ≤ v / 33554432 ∧ v / 33554432 < 128 := by omega
  clear hv0 hv1
  generalize v / 128 % 32 = y1 at *
  generalize v / 4096 % 8 = y2 at *
  generalize v / 33554432 = y3 at *
  generalize v % 128 = y0 at *
  apply Bool.eq_iff_iff.2
  simp
  omega
theorem tab_fix {op : Int} (h : 50 ≤ op ∧ op ≤ 53 ∨ 60 ≤ op ∧ op ≤ 62) : tlI op = 4294967295 ∧ hdI op = fixI op := by
  have := op_cases (p := fun op => 50 ≤ op ∧ op ≤ 53 ∨ 60 ≤ op ∧ op ≤ 62 → tlI op = 4294967295 ∧ hdI op = fixI op) (by decide +kernel) (fun op h a => by omega) op
  exact this h
theorem tell_fix (op v : Int) (h : 50 ≤ op ∧ op ≤ 53 ∨ 60 ≤ op ∧ op ≤ 62) (hv0 : 0 ≤ v) (hv1 : v < 4294967296) : tellB op v = hitB op v := by
  obtain ⟨t0, t1⟩ := tab_fix h
  rw [hit_fix op v h]
  unfold tellB
  rw [t0, t1, and_m5 hv0 hv1]
  apply Bool.eq_iff_iff.2
  simp
  omega
theorem tell_hit (op v : Int) (h0 : 1 ≤ op) (h1 : op < 70) (hv0 : 0 ≤ v) (hv1 : v < 4294967296) : tellB op v = hitB op v := by
  by_cases cU : op ≤ 2
  · exact tell_U op v (by omega) cU hv0 hv1
  by_cases cJ : op ≤ 3
  · exact tell_J op v (by omega) cJ hv0 hv1
  by_cases cJr : op ≤ 4
  · exact tell_Jr op v (by omega) cJr hv0 hv1
  by_cases cB : op ≤ 10
  · exact tell_B op v (by omega) cB hv0 hv1
  by_cases cL : op ≤ 17
  · exact tell_L op v (by omega) cL hv0 hv1
  by_cases cS : op ≤ 21
  · exact tell_S op v (by omega) cS hv0 hv1
  by_cases cI : op ≤ 27
  · exact tell_I op v (by omega) cI hv0 hv1
  by_cases cH : op ≤ 30
  · exact tell_H op v (by omega) cH hv0 hv1
  by_cases cIw : op ≤ 31
  · exact tell_Iw op v (by omega) cIw hv0 hv1
  by_cases cHw : op ≤ 34
  · exact tell_Hw op v (by omega) cHw hv0 hv1
  by_cases cR : op ≤ 49
  · exact tell_R op v (by omega) cR hv0 hv1
  by_cases cfix1 : op ≤ 53
  · exact tell_fix op v (by omega) hv0 hv1
  by_cases cC : op ≤ 56
  · exact tell_C op v (by omega) cC hv0 hv1
  by_cases cCi : op ≤ 59
  · exact tell_Ci op v (by omega) cCi hv0 hv1
  by_cases cfix2 : op ≤ 62
  · exact tell_fix op v (by omega) hv0 hv1
  by_cases cV : op ≤ 65
  · exact tell_V op v (by omega) cV hv0 hv1
  by_cases cG : op ≤ 67
  · exact tell_G op v (by omega) cG hv0 hv1
  by_cases cX : op ≤ 68
  · exact tell_X op v (by omega) cX hv0 hv1
  exact tell_Gs op v (by omega) (by omega) hv0 hv1
end Go.Proofs.YtbcmklojfmenjaaDoor
