/-
  Two tables, by hand: what a translation through both comes to. Plain facts: no call of the program is walked here.
-/
import Derived.Test.YtpplclenokfpeaaDoorOwnMath
namespace Go.Proofs.YtpplclenokfpeaaDoor
open Go.RowKit
/-- The frames that the second table names. -/
def bothF (g h : Int) (n : Nat) : Int := if (n : Int) = g ∧ 1 < g then h else 32 + n
/-- Memory with both tables. -/
def twoM (g h p : Int) : Nat → Int := wrZ (wrZ (ownM (bothF g h) 16) 8192 8 (makI 1 1)) (8448 + 8 * p) 8 (makI g 207)
theorem two_ent {g h p : Int} (p0 : 0 ≤ p) (p1 : p < 16) (f i : Int) : entE (twoM g h p) f i = if f = 33 ∧ i = p then makI g 207 else if f = 32 ∧ i = 0 then makI 1 1 else entE (ownM (bothF g h) 16) f i := by
  have o1 : entO 33 p = true := decide_eq_true (by omega)
  have h1 := ent_wr (B := wrZ (ownM (bothF g h) 16) 8192 8 (makI 1 1)) (f := f) (i := i) (v := makI g 207) o1 (U_made _ _)
  have h2 := ent_wr (B := ownM (bothF g h) 16) (f := f) (i := i) (g := 32) (j := 0) (v := makI 1 1) (by decide) (U_made _ _)
  unfold twoM
  rw [show (8448 + 8 * p : Int) = 33 * 256 + 8 * p by omega, h1, show (8192 : Int) = 32 * 256 + 8 * 0 by omega, h2]
theorem two_far {g h p : Int} (p0 : 0 ≤ p) (p1 : p < 16) (f i : Int) (hf : f = 1 ∨ f = 2) : entE (twoM g h p) f i = if f = 2 ∧ 0 ≤ i ∧ i < (16 : Nat) then makI (bothF g h i.toNat % 128) 223 else if f = 1 ∧ i = 0 then makI 2 1 else 0 := by
  rw [two_ent p0 p1, if_neg (by omega), if_neg (by omega), own_ent _ 16 (by omega)]
def bothS : StM := (ownS0.setC 21 9223372036855234561).setC 28 9223372036855365632
theorem bothS_ok : bothS.Ok := (ownS0_ok.setC 21 (by unfold U; omega)).setC 28 (by unfold U; omega)
/-- The entry that is wanted. -/
def wantE (P G H : Int) : EntM := ⟨true, true, P, 9, 7, H, 207, 223, G⟩
def bothA : AskM := ⟨true, true, false, false, 9, 7, 0, 1⟩
theorem both_ask : askS bothS 1 true = bothA := by kernel_rfl
/-- The second translation of a place below 16 frames. -/
theorem two_gst {g h p : Int} (p0 : 0 ≤ p) (p1 : p < 16) (f : Int) (hf : 0 ≤ f ∧ f < 16) (o : Int) (ho : 0 ≤ o ∧ o < 256) (G : Int) (hG : bothF g h f.toNat % 128 = G) (k : Int) (hk : k = 0 ∨ k = 1 ∨ k = 2) :
    gstS (twoM g h p) bothA (f * 256 + o) k false = ⟨G * 256 + o, 223, 0⟩ := by
  have hw := own_walk (bothF g h) 16 (by omega) (two_far (g := g) (h := h) p0 p1) (f * 256 + o) (by omega)
  have e : ownG (bothF g h) (f * 256 + o) = G := by
    unfold ownG
    rw [show (f * 256 + o) / 256 = f by omega, hG]
  rw [if_pos (by omega), e] at hw
  unfold gstS bothA
  have e1 : makI G 223 % 256 = 223 := by unfold makI; omega
  have e2 : (f * 256 + o) % 256 = o := by omega
  simp [hw, e1, own_may k hk, e2, show ¬ (65536 ≤ f * 256 + o) by omega]
theorem rd_ent {B : Nat → Int} {f i : Int} (h : entO f i = true) : rdF B (f * 256 + 8 * i).toNat 8 = entE B f i := by
  unfold entE
  rw [h, cond_true]
/-- A step of the first table's walk. -/
theorem two_stp {g h p : Int} (p0 : 0 ≤ p) (p1 : p < 16) (g0 : 2 ≤ g) (r : Int) (hr : r = 0 ∨ r = 1) (i : Int) (hi : 0 ≤ i ∧ i < 16) (k : Int) :
    stpS (twoM g h p) bothA r i k = ⟨true, entE (twoM g h p) (32 + r) i, 0, 0⟩ := by
  have hG : bothF g h r.toNat % 128 = 32 + r := by
    unfold bothF
    rw [if_neg (by omega)]
    omega
  have hg := two_gst (g := g) (h := h) p0 p1 r (by omega) (8 * i) (by omega) (32 + r) hG 1 (.inr (.inl rfl))
  have ho : entO (32 + r) i = true := decide_eq_true (by omega)
  unfold stpS
  rw [hg]
  simp [ent_code ho, rd_ent ho]
theorem leaf_207 {f : Int} (f0 : 0 ≤ f) (f1 : f ≤ 255) : leafE (makI f 207) = true := by
  rw [made_leaf f0 f1 (by omega) (by omega), made_is f0 f1 (by omega) (by omega)]; decide
theorem is_ptr1 : isE (makI 1 1) = true ∧ leafE (makI 1 1) = false ∧ frI (makI 1 1) = 1 := by decide +kernel
theorem two_fst {g h p : Int} (p0 : 0 ≤ p) (p1 : p < 16) (g0 : 2 ≤ g) (g1 : g < 16) (o : Int) (ho : 0 ≤ o ∧ o < 256) (k : Int) :
    fstS (twoM g h p) bothA (p * 256 + o) k = ⟨true, makI g 207, g, 0, 0⟩ := by
  have ht : topI (p * 256 + o) = 0 := by unfold topI; omega
  have hl : lowI (p * 256 + o) = p := by unfold lowI; omega
  have s1 := two_stp (g := g) (h := h) p0 p1 g0 0 (.inl rfl) 0 (by omega) k
  have s2 := two_stp (g := g) (h := h) p0 p1 g0 1 (.inr rfl) p (by omega) k
  rw [two_ent p0 p1, if_neg (by omega), if_pos (by omega)] at s1
  rw [two_ent p0 p1, if_pos (by omega)] at s2
  have hr : bothA.root = 0 := rfl
  unfold fstS
  rw [hr, ht, hl, s1]
  simp [is_ptr1.1, is_ptr1.2.1, is_ptr1.2.2, s2, leaf_207 (show 0 ≤ g by omega) (show g ≤ 255 by omega), made_frame (show 0 ≤ g by omega) (show g ≤ 255 by omega)]
theorem two_fst8 {g h p : Int} (p0 : 0 ≤ p) (p1 : p < 16) (g0 : 2 ≤ g) (o : Int) (ho : 0 ≤ o ∧ o < 256) (k : Int) :
    fstS (twoM g h p) bothA (p * 256 + o + 32768) k = ⟨false, 0, 0, pageC k, 0⟩ := by
  have ht : topI (p * 256 + o + 32768) = 8 := by unfold topI; omega
  have s1 := two_stp (g := g) (h := h) p0 p1 g0 0 (.inl rfl) 8 (by omega) k
  rw [two_ent p0 p1, if_neg (by omega), if_neg (by omega), own_ent _ 16 (by omega), if_neg (by omega), if_neg (by omega)] at s1
  have hr : bothA.root = 0 := rfl
  unfold fstS
  rw [hr, ht, s1]
  simp [is_nought.1]
theorem two_may (k : Int) (hk : k = 0 ∨ k = 1 ∨ k = 2) : mayE 207 (knd k false) false false false = true := by
  rcases hk with rfl | rfl | rfl <;> decide +kernel
/-- What both translations come to. -/
theorem two_tr {g h p : Int} (p0 : 0 ≤ p) (p1 : p < 16) (g0 : 2 ≤ g) (g1 : g < 16) (h0 : 0 ≤ h) (h1 : h < 128) (o : Int) (ho : 0 ≤ o ∧ o < 256) (k : Int) (hk : k = 0 ∨ k = 1 ∨ k = 2) :
    trS (twoM g h p) bothS (p * 256 + o) k 1 true false = ⟨h * 256 + o, ⟨true, true, p, 9, 7, h, 207, 223, g⟩, fltNone, true⟩ := by
  have hG : bothF g h g.toNat % 128 = h := by
    unfold bothF
    rw [if_pos (by omega)]
    omega
  have hg := two_gst (g := g) (h := h) p0 p1 g (by omega) o ho h hG k hk
  have hf := two_fst (g := g) (h := h) p0 p1 g0 g1 o ho k
  have e1 : makI g 207 % 256 = 207 := by unfold makI; omega
  have e2 : (p * 256 + o) % 256 = o := by omega
  have e3 : (p * 256 + o) / 256 % 256 = p := by omega
  have e4 : (g * 256 + o) / 256 = g := by omega
  have e5 : (h * 256 + o) / 256 = h := by omega
  have b1 : bothA.first = true := rfl
  have b2 : bothA.sum = false := rfl
  have b3 : bothA.mxr = false := rfl
  have b4 : bothA.asid = 9 := rfl
  have b5 : bothA.vmid = 7 := rfl
  unfold trS endS
  rw [both_ask, hf]
  simp [b1, b2, b3, b4, b5, e1, e2, e3, e4, e5, hg, two_may k hk, show ¬ (65536 ≤ p * 256 + o) by omega]
theorem two_tr8 {g h p : Int} (p0 : 0 ≤ p) (p1 : p < 16) (g0 : 2 ≤ g) (o : Int) (ho : 0 ≤ o ∧ o < 256) (k : Int) :
    trS (twoM g h p) bothS (p * 256 + o + 32768) k 1 true false = ⟨0, entNone, ⟨pageC k, p * 256 + o + 32768, 0, true⟩, false⟩ := by
  have hf := two_fst8 (g := g) (h := h) p0 p1 g0 o ho k
  have b1 : bothA.first = true := rfl
  unfold trS
  rw [both_ask, hf]
  simp [b1, show ¬ (65536 ≤ p * 256 + o + 32768) by omega]
end Go.Proofs.YtpplclenokfpeaaDoor
