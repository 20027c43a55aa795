/-
  What is left of a word, when what tells its operation is taken away, says the same numbers.
-/
import Derived.Test.YtbcmklojfmenjaaDoorDecTells
namespace Go.Proofs.YtbcmklojfmenjaaDoor
open Go.RowKit
theorem rest_U {op v r : Int} (h0 : 1 ≤ op) (h1 : op ≤ 2) (hv0 : 0 ≤ v) (hv1 : v < 4294967296) (hr : r = bits .andNot .u32 v (tlI op)) : (0 ≤ r ∧ r < 4294967296) ∧ gRd r = gRd v ∧ gU r = gU v := by
  rw [(tab_U h0 h1).1, not_m1 hv0 hv1] at hr
  clear h0 h1
  refine ⟨⟨by omega, by omega⟩, ?_, ?_⟩
  · unfold gRd; omega
  · have q0 : r / 4096 = v / 4096 := by omega
    unfold gU
    rw [q0]
theorem rest_J {op v r : Int} (h0 : 3 ≤ op) (h1 : op ≤ 3) (hv0 : 0 ≤ v) (hv1 : v < 4294967296) (hr : r = bits .andNot .u32 v (tlI op)) : (0 ≤ r ∧ r < 4294967296) ∧ gRd r = gRd v ∧ gJ r = gJ v := by
  rw [(tab_J h0 h1).1, not_m1 hv0 hv1] at hr
  clear h0 h1
  refine ⟨⟨by omega, by omega⟩, ?_, ?_⟩
  · unfold gRd; omega
  · have q0 : r / 2147483648 = v / 2147483648 := by omega
    have q1 : r / 4096 % 256 = v / 4096 % 256 := by omega
    have q2 : r / 1048576 % 2 = v / 1048576 % 2 := by omega
    have q3 : r / 2097152 % 1024 = v / 2097152 % 1024 := by omega
    unfold gJ
    rw [q0, q1, q2, q3]
theorem rest_Jr {op v r : Int} (h0 : 4 ≤ op) (h1 : op ≤ 4) (hv0 : 0 ≤ v) (hv1 : v < 4294967296) (hr : r = bits .andNot .u32 v (tlI op)) : (0 ≤ r ∧ r < 4294967296) ∧ gRd r = gRd v ∧ gRs1 r = gRs1 v ∧ gI r = gI v := by
  rw [(tab_Jr h0 h1).1, not_m2 hv0 hv1] at hr
  clear h0 h1
  refine ⟨⟨by omega, by omega⟩, ?_, ?_, ?_⟩
  · unfold gRd; omega
  · unfold gRs1; omega
  · have q0 : r / 1048576 = v / 1048576 := by omega
    unfold gI
    rw [q0]
theorem rest_B {op v r : Int} (h0 : 5 ≤ op) (h1 : op ≤ 10) (hv0 : 0 ≤ v) (hv1 : v < 4294967296) (hr : r = bits .andNot .u32 v (tlI op)) : (0 ≤ r ∧ r < 4294967296) ∧ gRs1 r = gRs1 v ∧ gRs2 r = gRs2 v ∧ gB r = gB v := by
  rw [(tab_B h0 h1).1, not_m2 hv0 hv1] at hr
  clear h0 h1
  refine ⟨⟨by omega, by omega⟩, ?_, ?_, ?_⟩
  · unfold gRs1; omega
  · unfold gRs2; omega
  · have q0 : r / 2147483648 = v / 2147483648 := by omega
    have q1 : r / 128 % 2 = v / 128 % 2 := by omega
    have q2 : r / 33554432 % 64 = v / 33554432 % 64 := by omega
    have q3 : r / 256 % 16 = v / 256 % 16 := by omega
    unfold gB
    rw [q0, q1, q2, q3]
theorem rest_L {op v r : Int} (h0 : 11 ≤ op) (h1 : op ≤ 17) (hv0 : 0 ≤ v) (hv1 : v < 4294967296) (hr : r = bits .andNot .u32 v (tlI op)) : (0 ≤ r ∧ r < 4294967296) ∧ gRd r = gRd v ∧ gRs1 r = gRs1 v ∧ gI r = gI v := by
  rw [(tab_L h0 h1).1, not_m2 hv0 hv1] at hr
  clear h0 h1
  refine ⟨⟨by omega, by omega⟩, ?_, ?_, ?_⟩
  · unfold gRd; omega
  · unfold gRs1; omega
  · have q0 : r / 1048576 = v / 1048576 := by omega
    unfold gI
    rw [q0]
theorem rest_S {op v r : Int} (h0 : 18 ≤ op) (h1 : op ≤ 21) (hv0 : 0 ≤ v) (hv1 : v < 4294967296) (hr : r = bits .andNot .u32 v (tlI op)) : (0 ≤ r ∧ r < 4294967296) ∧ gRs1 r = gRs1 v ∧ gRs2 r = gRs2 v ∧ gS r = gS v := by
  rw [(tab_S h0 h1).1, not_m2 hv0 hv1] at hr
  clear h0 h1
  refine ⟨⟨by omega, by omega⟩, ?_, ?_, ?_⟩
  · unfold gRs1; omega
  · unfold gRs2; omega
  · have q0 : r / 33554432 = v / 33554432 := by omega
    have q1 : r / 128 % 32 = v / 128 % 32 := by omega
    unfold gS
    rw [q0, q1]
theorem rest_I {op v r : Int} (h0 : 22 ≤ op) (h1 : op ≤ 27) (hv0 : 0 ≤ v) (hv1 : v < 4294967296) (hr : r = bits .andNot .u32 v (tlI op)) : (0 ≤ r ∧ r < 4294967296) ∧ gRd r = gRd v ∧ gRs1 r = gRs1 v ∧ gI r = gI v := by
  rw [(tab_I h0 h1).1, not_m2 hv0 hv1] at hr
  clear h0 h1
  refine ⟨⟨by omega, by omega⟩, ?_, ?_, ?_⟩
  · unfold gRd; omega
  · unfold gRs1; omega
  · have q0 : r / 1048576 = v / 1048576 := by omega
    unfold gI
    rw [q0]
theorem rest_H {op v r : Int} (h0 : 28 ≤ op) (h1 : op ≤ 30) (hv0 : 0 ≤ v) (hv1 : v < 4294967296) (hr : r = bits .andNot .u32 v (tlI op)) : (0 ≤ r ∧ r < 4294967296) ∧ gRd r = gRd v ∧ gRs1 r = gRs1 v ∧ gI r = g6 v := by
  rw [(tab_H h0 h1).1, not_m3 hv0 hv1] at hr
  clear h0 h1
  refine ⟨⟨by omega, by omega⟩, ?_, ?_, ?_⟩
  · unfold gRd; omega
  · unfold gRs1; omega
  · unfold gI sgn g6
    rw [if_pos (by omega)]
    omega
theorem rest_Iw {op v r : Int} (h0 : 31 ≤ op) (h1 : op ≤ 31) (hv0 : 0 ≤ v) (hv1 : v < 4294967296) (hr : r = bits .andNot .u32 v (tlI op)) : (0 ≤ r ∧ r < 4294967296) ∧ gRd r = gRd v ∧ gRs1 r = gRs1 v ∧ gI r = gI v := by
  rw [(tab_Iw h0 h1).1, not_m2 hv0 hv1] at hr
  clear h0 h1
  refine ⟨⟨by omega, by omega⟩, ?_, ?_, ?_⟩
  · unfold gRd; omega
  · unfold gRs1; omega
  · have q0 : r / 1048576 = v / 1048576 := by omega
    unfold gI
    rw [q0]
theorem rest_Hw {op v r : Int} (h0 : 32 ≤ op) (h1 : op ≤ 34) (hv0 : 0 ≤ v) (hv1 : v < 4294967296) (hr : r = bits .andNot .u32 v (tlI op)) : (0 ≤ r ∧ r < 4294967296) ∧ gRd r = gRd v ∧ gRs1 r = gRs1 v ∧ gI r = g5 v := by
  rw [(tab_Hw h0 h1).1, not_m4 hv0 hv1] at hr
  clear h0 h1
  refine ⟨⟨by omega, by omega⟩, ?_, ?_, ?_⟩
  · unfold gRd; omega
  · unfold gRs1; omega
  · unfold gI sgn g5
    rw [if_pos (by omega)]
    omega
theorem rest_R {op v r : Int} (h0 : 35 ≤ op) (h1 : op ≤ 49) (hv0 : 0 ≤ v) (hv1 : v < 4294967296) (hr : r = bits .andNot .u32 v (tlI op)) : (0 ≤ r ∧ r < 4294967296) ∧ gRd r = gRd v ∧ gRs1 r = gRs1 v ∧ gRs2 r = gRs2 v := by
  rw [(tab_R h0 h1).1, not_m4 hv0 hv1] at hr
  clear h0 h1
  refine ⟨⟨by omega, by omega⟩, ?_, ?_, ?_⟩
  · unfold gRd; omega
  · unfold gRs1; omega
  · unfold gRs2; omega
theorem rest_C {op v r : Int} (h0 : 54 ≤ op) (h1 : op ≤ 56) (hv0 : 0 ≤ v) (hv1 : v < 4294967296) (hr : r = bits .andNot .u32 v (tlI op)) : (0 ≤ r ∧ r < 4294967296) ∧ gRd r = gRd v ∧ gRs1 r = gRs1 v ∧ gCsr r = gCsr v := by
  rw [(tab_C h0 h1).1, not_m2 hv0 hv1] at hr
  clear h0 h1
  refine ⟨⟨by omega, by omega⟩, ?_, ?_, ?_⟩
  · unfold gRd; omega
  · unfold gRs1; omega
  · unfold gCsr; omega
theorem rest_Ci {op v r : Int} (h0 : 57 ≤ op) (h1 : op ≤ 59) (hv0 : 0 ≤ v) (hv1 : v < 4294967296) (hr : r = bits .andNot .u32 v (tlI op)) : (0 ≤ r ∧ r < 4294967296) ∧ gRd r = gRd v ∧ gRs1 r = gRs1 v ∧ gCsr r = gCsr v := by
  rw [(tab_Ci h0 h1).1, not_m2 hv0 hv1] at hr
  clear h0 h1
  refine ⟨⟨by omega, by omega⟩, ?_, ?_, ?_⟩
  · unfold gRd; omega
  · unfold gRs1; omega
  · unfold gCsr; omega
theorem rest_V {op v r : Int} (h0 : 63 ≤ op) (h1 : op ≤ 65) (hv0 : 0 ≤ v) (hv1 : v < 4294967296) (hr : r = bits .andNot .u32 v (tlI op)) : (0 ≤ r ∧ r < 4294967296) ∧ gRd r = 0 ∧ gRs1 r = gRs1 v ∧ gRs2 r = gRs2 v := by
  rw [(tab_V h0 h1).1, not_m6 hv0 hv1] at hr
  clear h0 h1
  refine ⟨⟨by omega, by omega⟩, ?_, ?_, ?_⟩
  · unfold gRd; omega
  · unfold gRs1; omega
  · unfold gRs2; omega
theorem rest_G {op v r : Int} (h0 : 66 ≤ op) (h1 : op ≤ 67) (hv0 : 0 ≤ v) (hv1 : v < 4294967296) (hr : r = bits .andNot .u32 v (tlI op)) : (0 ≤ r ∧ r < 4294967296) ∧ gRd r = gRd v ∧ gRs1 r = gRs1 v ∧ gRs2 r = 0 := by
  rw [(tab_G h0 h1).1, not_m7 hv0 hv1] at hr
  clear h0 h1
  refine ⟨⟨by omega, by omega⟩, ?_, ?_, ?_⟩
  · unfold gRd; omega
  · unfold gRs1; omega
  · unfold gRs2; omega
theorem rest_X {op v r : Int} (h0 : 68 ≤ op) (h1 : op ≤ 68) (hv0 : 0 ≤ v) (hv1 : v < 4294967296) (hr : r = bits .andNot .u32 v (tlI op)) : (0 ≤ r ∧ r < 4294967296) ∧ gRd r = gRd v ∧ gRs1 r = gRs1 v ∧ gRs2 r = 0 := by
  rw [(tab_X h0 h1).1, not_m7 hv0 hv1] at hr
  clear h0 h1
  refine ⟨⟨by omega, by omega⟩, ?_, ?_, ?_⟩
  · unfold gRd; omega
  · unfold gRs1; omega
  · unfold gRs2; omega
theorem rest_Gs {op v r : Int} (h0 : 69 ≤ op) (h1 : op ≤ 69) (hv0 : 0 ≤ v) (hv1 : v < 4294967296) (hr : r = bits .andNot .u32 v (tlI op)) : (0 ≤ r ∧ r < 4294967296) ∧ gRd r = 0 ∧ gRs1 r = gRs1 v ∧ gRs2 r = gRs2 v := by
  rw [(tab_Gs h0 h1).1, not_m6 hv0 hv1] at hr
  clear h0 h1
  refine ⟨⟨by omega, by omega⟩, ?_, ?_, ?_⟩
  · unfold gRd; omega
  · unfold gRs1; omega
  · unfold gRs2; omega
theorem rest_fix {op v r : Int} (h : 50 ≤ op ∧ op ≤ 53 ∨ 60 ≤ op ∧ op ≤ 62) (hv0 : 0 ≤ v) (hv1 : v < 4294967296) (hr : r = bits .andNot .u32 v (tlI op)) : r = 0 := by
  rw [(tab_fix h).1, not_m5 hv0 hv1] at hr
  exact hr
end Go.Proofs.YtbcmklojfmenjaaDoor
