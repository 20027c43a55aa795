/-
  The examples that every statement of layer 13 asks first (known) hold.
-/
import Derived.Test.YtlfaklabghhdkaaTTl
import Derived.Test.YtlfaklabghhdkaaTlSame
import Derived.BigRegion
namespace Go.Proofs.Ytlfaklabghhdkaa
open Go.RowKit
def kE13 : EntM := ⟨true, false, 3, 0, 0, 4, 255, 255, 0⟩
def kT1 : Nat → EntM := fillT noneT kE13 0
theorem y1 : lookT kT1 3 false 0 0 = kE13 := by kernel_rfl
theorem y2 : isT kT1 3 false 0 0 = true := by kernel_rfl
theorem y3 : isT kT1 3 true 0 0 = false := by kernel_rfl
theorem y4 : (allT kT1).length = 1 := by kernel_rfl
theorem y5 : decide (0 ≤ dropI kT1 entNone) = false := by kernel_rfl
theorem y6 : dropT kT1 entNone = kT1 := by kernel_rfl
theorem y7 : decide (0 ≤ dropI kT1 kE13) = true := by kernel_rfl
theorem y8 : (allT (dropT kT1 kE13)).length = 0 := by kernel_rfl
/-- The object that the call itself made. -/
structure St13 (W w : World) (b : Nat) (T : Nat → EntM) : Prop where
  m : PTl w b T
  k : Kept W w
  hb : W.heap.size ≤ b
theorem St13.kept {W w w' : World} {b : Nat} {T : Nat → EntM} (h : St13 W w b T) (g : Kept w w') : St13 W w' b T := ⟨h.m.kept g, h.k.then g, h.hb⟩
theorem St13.turn {W w w' : World} {b : Nat} {T T' : Nat → EntM} (h : St13 W w b T) (g : Only (fun i => i = b) w w') (m : PTl w' b T') : St13 W w' b T' := ⟨m, h.k.new g fun i hi => by rw [hi]; exact h.hb, h.hb⟩
set_option maxRecDepth 10000 in
set_option maxHeartbeats 4000000 in
theorem known13_any {W w : World} (hT : Tab13 W) (k : Kept W w) :
    Calls Try.prog 7 #[] w fun e w' => e = .returned (.bool true) ∧ Kept W w' := by
  go_enter Try.func7, Try.ntmps7
  go_wp2_with fail
  refine (tnew_any (hT.kept k)).mono ?_
  rintro r w1 ⟨b, rfl, m1, hb1, k1⟩
  have s1 : St13 W w1 b noneT := ⟨m1, k.then k1, Nat.le_trans k.size hb1⟩
  clear m1 hb1 k1 k
  go_upto_region 5 with (first | (refine wpList_built rfl 28 _ rfl (entA kE13).toArray (by kernel_rfl) ?_) | (refine wpList_alloc_go rfl 28 rfl (entA entNone).toArray ent_zero' ?_; intro eb w2 n2 k2 m2 e2) | (refine wpList_store_go rfl 28 _ _ rfl eb (entA kE13).toArray rfl rfl e2 (ent_size' _) ((ent_len _).trans (ent_len _).symm) (ent_ones' _) ?_; intro w3 o3 e3))
  have s3 := s1.kept (k2.new o3 fun i hi => by omega)
  have hbe : ¬ eb = b := by have := s1.m.lt; omega
  clear s1 k2 o3 e2
  go_upto_region 6 with (first | (refine wpList_load_blk (by rfl) 28 _ rfl eb rfl e3 _ Try.underlying28 rfl (ent_size' _) ?_) | (go_at_call 10; refine (tfill_any (hT.kept s3.k) s3.m kE13 0).mono ?_; rintro r w4 ⟨rfl, m4, g4⟩))
  have s4 : St13 W w4 b kT1 := s3.turn g4 m4
  have e4 : Blk w4 eb 28 (entA kE13).toArray := g4.block e3 hbe
  clear s3 m4 g4 e3
  go_upto_region 7 with (first | (go_at_call 16; refine (tlook_any (hT.kept s4.k) s4.m 3 false 0 0).mono ?_; rintro r w5 ⟨rfl, k5⟩; rw [y1, y2]) | (refine wpList_alloc_go rfl 28 rfl (entA entNone).toArray ent_zero' ?_; intro fb w6 n6 k6 m6 f6) | (refine wpList_store_go rfl 28 _ _ rfl fb (entA kE13).toArray rfl rfl f6 (ent_size' _) ((ent_len _).trans (ent_len _).symm) (ent_ones' _) ?_; intro w7 o7 f7))
  have kk : Kept w4 w7 := (k5.then k6).new o7 fun i hi => by have := k5.size; omega
  have s7 := s4.kept kk
  have e7 := e4.kept kk
  clear s4 e4 k5 k6 o7 f6 kk
  go_upto_region 8 with (first | (go_at_call 16; refine (tlook_any (hT.kept s7.k) s7.m 3 true 0 0).mono ?_; rintro r w8 ⟨rfl, k8⟩; rw [y3]) | (refine wpList_alloc_go rfl 28 rfl (entA entNone).toArray ent_zero' ?_; intro gb w9 n9 k9 m9 f9) | (refine wpList_store_go rfl 28 _ _ rfl gb (entA (lookT kT1 3 true 0 0)).toArray rfl rfl f9 (ent_size' _) ((ent_len _).trans (ent_len _).symm) (ent_ones' _) ?_; intro w10 o10 f10))
  have kk : Kept w7 w10 := (k8.then k9).new o10 fun i hi => by have := k8.size; omega
  have s10 := s7.kept kk
  have e10 := e7.kept kk
  have h10 := f7.kept kk
  clear s7 e7 f7 k8 k9 o10 f9 f10 kk
  go_upto_region 9 with (go_at_call 19; refine (tall_any (hT.kept s10.k) s10.m).mono ?_; rintro r w11 ⟨v, rfl, ow, k11⟩; obtain ⟨q, cap, rfl⟩ := ow.form; rw [y4])
  have s11 := s10.kept k11
  have e11 := e10.kept k11
  have f11 := h10.kept k11
  have hbe2 : ¬ eb = b := hbe
  clear s10 e10 h10 k11 ow
  have z5 := y5
  have z6 := y6
  have z7 := y7
  have z8 := y8
  generalize dropT kT1 kE13 = T2 at z8
  have hd2 : ∃ T2, dropT kT1 kE13 = T2 ∧ (allT T2).length = 0 := ⟨_, rfl, y8⟩
  clear z8 T2
  obtain ⟨T2, hT2, z8⟩ := hd2
  generalize kT1 = T1 at *
  generalize kE13 = E at *
  have hq := eq_ent E
  go_wp2_with (first | (refine wpList_load_blk (by rfl) 28 _ rfl fb rfl f11 _ Try.underlying28 rfl (ent_size' _) ?_) | (refine wpList_load_blk (by rfl) 28 _ rfl eb rfl e11 _ Try.underlying28 rfl (ent_size' _) ?_))
  refine (tdrop_any (hT.kept s11.k) s11.m entNone).mono ?_
  rintro r w12 ⟨rfl, m12, g12⟩
  rw [z5]; rw [z6] at m12
  have e12 := g12.block e11 hbe
  have s12 := s11.turn g12 m12
  clear s11 e11 f11 m12 g12
  go_wp2_with (refine wpList_load_blk (by rfl) 28 _ rfl eb rfl e12 _ Try.underlying28 rfl (ent_size' _) ?_)
  refine (tdrop_any (hT.kept s12.k) s12.m E).mono ?_
  rintro r w13 ⟨rfl, m13, g13⟩
  rw [z7]; rw [hT2] at m13
  have s13 := s12.turn g13 m13
  clear s12 m13 g13 e12
  go_wp2_with fail
  refine (tflush_any (hT.kept s13.k) s13.m).mono ?_
  rintro r w14 ⟨rfl, m14, g14⟩
  rw [z8]
  have s14 := s13.turn g14 m14
  clear s13 m14 g14
  go_wp2_with fail
  go_ret
  exact ⟨rfl, s14.k⟩
end Go.Proofs.Ytlfaklabghhdkaa
