/-
  The examples that every statement of layer 14 asks first (known) hold; what the statements' own filled makes.
-/
import Derived.Test.YtpfblbleendpiaaDoorTFen
import Derived.Test.YtpfblbleendpiaaDoorEntIn
import Derived.BigRegion
namespace Go.Proofs.YtpfblbleendpiaaDoor
open Go.RowKit
def kE1 : EntM := ⟨true, true, 3, 1, 2, 0, 0, 0, 9⟩
def kE2 : EntM := ⟨true, false, 4, 1, 0, 0, 0, 0, 0⟩
def kS0 : StM := ⟨fun _ => 0, 0, 1, false, fun _ => 0, 0⟩
def kS14 : StM := kS0.setC 21 131072
theorem kS0_ok : kS0.Ok := ⟨fun _ _ => by unfold kS0 U; simp, by unfold kS0 U; simp, by unfold kS0 I64; simp, fun _ _ => by unfold kS0 U; simp, by unfold kS0 U; simp⟩
theorem kS14_ok : kS14.Ok := kS0_ok.setC 21 (by unfold U; omega)
def kT14 : Nat → EntM := fillT (fillT noneT kE1 0) kE2 0
theorem inv_k14 : InvG kT14 := inv_fillG (inv_fillG invG_none _ _) _ _
theorem wipe_zero {P : EntM → Bool} {T : Nat → EntM} : ∀ k, cntK P T k = 0 → wipeK P T k = T
  | 0, _ => wipe_0 P T
  | k + 1, h => by
    cases hp : P (T k)
    · rw [(wipe_no hp).1]
      exact wipe_zero k (by rwa [(wipe_no hp).2] at h)
    · rw [(wipe_yes hp).2] at h
      omega
theorem z1 : ((cntT (sfeB kS14 true 5 (-1)) kT14 : Nat) : Int) = 0 := by kernel_rfl
theorem z2 : ((cntT (hosB 9 3) kT14 : Nat) : Int) = 0 := by kernel_rfl
theorem z3 : ((cntT (sfeB kS14 kS14.v (-1) 2) kT14 : Nat) : Int) = 0 := by kernel_rfl
theorem z4 : ((cntT (sfeB kS14 true 3 1) kT14 : Nat) : Int) = 1 := by kernel_rfl
theorem z5 : ((cntT (sfeB kS14 kS14.v 4 (-1)) (wipeT (sfeB kS14 true 3 1) kT14) : Nat) : Int) = 1 := by kernel_rfl
theorem z6 : (allT (wipeT (sfeB kS14 kS14.v 4 (-1)) (wipeT (sfeB kS14 true 3 1) kT14))).length = 0 := by kernel_rfl
theorem z1w : wipeT (sfeB kS14 true 5 (-1)) kT14 = kT14 := wipe_zero 16 (Int.ofNat_inj.1 z1)
theorem z2w : wipeT (hosB 9 3) kT14 = kT14 := wipe_zero 16 (Int.ofNat_inj.1 z2)
theorem z3w : wipeT (sfeB kS14 kS14.v (-1) 2) kT14 = kT14 := wipe_zero 16 (Int.ofNat_inj.1 z3)
/-- An object that the call itself made, and a state's room. -/
structure St14 (W w : World) (b : Nat) (T : Nat → EntM) : Prop where
  m : PTl w b T
  g : InvG T
  k : Kept W w
  hb : W.heap.size ≤ b
theorem St14.kept {W w w' : World} {b : Nat} {T : Nat → EntM} (h : St14 W w b T) (g : Kept w w') : St14 W w' b T := ⟨h.m.kept g, h.g, h.k.then g, h.hb⟩
theorem St14.past {W w w' : World} {b c : Nat} {T : Nat → EntM} (h : St14 W w b T) (g : Only (fun i => i = c) w w') (hn : c ≠ b) (hc : W.heap.size ≤ c) : St14 W w' b T := ⟨h.m.same g (fun x => hn x.symm), h.g, h.k.new g fun i hi => by rw [hi]; exact hc, h.hb⟩
theorem St14.turn {W w w' : World} {b : Nat} {T T' : Nat → EntM} (h : St14 W w b T) (g : Only (fun i => i = b) w w') (m : PTl w' b T') (i : InvG T') : St14 W w' b T' := ⟨m, i, h.k.new g fun i hi => by rw [hi]; exact h.hb, h.hb⟩
theorem st_kept14 {w w' : World} {b : Nat} {S : StM} (h : StAt w b S) (g : Kept w w') : StAt w' b S := World.rowIs.of_block h (g.same b (World.rowIs.lt h) id)
theorem st_past14 {w w' : World} {b c : Nat} {S : StM} (h : StAt w b S) (g : Only (fun i => i = c) w w') (hn : b ≠ c) : StAt w' b S := World.rowIs.of_block h (g.same b (World.rowIs.lt h) hn)
set_option maxRecDepth 10000 in
set_option maxHeartbeats 4000000 in
theorem known14_any {W w : World} (hT : Tab14 W) (k : Kept W w) :
    Calls Tryd.prog 4 #[] w fun e w' => e = .returned (.bool true) ∧ Kept W w' := by
  go_enter Tryd.func4, Tryd.ntmps4
  go_wp2_with fail
  refine (tnew_any (hT.kept k).tl).mono ?_
  rintro r w1 ⟨b, rfl, m1, hb1, k1⟩
  have s1 : St14 W w1 b noneT := ⟨m1, invG_none, k.then k1, Nat.le_trans k.size hb1⟩
  clear m1 hb1 k1 k
  go_upto_region 3 with (first | (refine wpList_built rfl 47 _ rfl (entA kE1).toArray (by kernel_rfl) ?_) | (go_at_call 18; refine (tfill_any (hT.kept s1.k).tl s1.m kE1 0).mono ?_; rintro r w2 ⟨rfl, m2, g2⟩))
  have s2 := s1.turn g2 m2 (inv_fillG s1.g _ _)
  clear s1 m2 g2
  go_upto_region 4 with (first | (refine wpList_built rfl 47 _ rfl (entA kE2).toArray (by kernel_rfl) ?_) | (go_at_call 18; refine (tfill_any (hT.kept s2.k).tl s2.m kE2 0).mono ?_; rintro r w3 ⟨rfl, m3, g3⟩))
  have s3 : St14 W w3 b kT14 := s2.turn g3 m3 (inv_fillG s2.g _ _)
  clear s2 m3 g3
  have h1 := st_new w3 kS0
  have s4 := s3.kept ((Only.refl _ w3).alloc (.cells (rowOf 65 (stF kS0)) 27))
  have hsb := s3.k.size
  have hpq := s3.m.lt
  clear s3
  go_upto_region 5 with (first | refine wpList_built rfl 27 _ rfl (rowOf 65 (stF kS0)) (by kernel_rfl) ?_ | refine wpList_alloc_is rfl 27 rfl (rowOf 65 zF) st_zero ?_ | (refine wpList_store_is rfl 27 _ _ rfl rfl rfl (row_alloc _ 65 zF _) st_size (fun i _ => stF_one _ i) ?_; rw [World.setRow_alloc_new]))
  simp only [Act.put]
  generalize (w3.alloc (.cells (rowOf 65 (stF kS0)) 27)) = w4 at h1 s4 ⊢
  generalize w3.heap.size = sb at h1 hsb hpq ⊢
  have v5 := h1.cell (i := 56) (by omega)
  have u5 := h1.frozen 56
  have h6 : StAt (w4.setCell ⟨sb, 56, none⟩ (.int .u64 131072)) sb kS14 := h1.set (i := 21) (by omega) 131072
  have s6 := s4.past (Only.setCell (Only.refl (fun i => i = sb) w4) (x := ⟨sb, 56, none⟩) rfl (.int .u64 131072)) (by omega) (by omega)
  go_upto_region 6 with fail
  clear h1 s4 v5 u5
  generalize w4.setCell ⟨sb, 56, none⟩ (.int .u64 131072) = w5 at h6 s6 ⊢
  have hne : ¬ sb = b := by omega
  clear hpq
  have inv := inv_k14
  go_wp2_with (refine wpList_load_is (by rfl) 27 _ rfl rfl h6 _ Tryd.underlying27 rfl st_size ?_)
  refine (fguest_any (hT.kept s6.k) s6.m s6.g kS14_ok 5 (-1)).mono ?_
  rintro r w7 ⟨rfl, m7, g7⟩
  rw [z1]
  rw [z1w] at m7
  have s7 := s6.turn g7 m7 inv
  have h7 := st_past14 h6 g7 hne
  clear s6 m7 g7 h6
  go_wp2_with (refine wpList_load_is (by rfl) 27 _ rfl rfl h7 _ Tryd.underlying27 rfl st_size ?_)
  refine (fhost_any (hT.kept s7.k) s7.m s7.g kS14_ok 9 3).mono ?_
  rintro r w8 ⟨rfl, m8, g8⟩
  rw [z2]
  rw [z2w] at m8
  have s8 := s7.turn g8 m8 inv
  have h8 := st_past14 h7 g8 hne
  clear s7 m8 g8 h7
  go_wp2_with (refine wpList_load_is (by rfl) 27 _ rfl rfl h8 _ Tryd.underlying27 rfl st_size ?_)
  refine (fsfence_any (hT.kept s8.k) s8.m s8.g kS14_ok (-1) 2).mono ?_
  rintro r w9 ⟨rfl, m9, g9⟩
  rw [z3]
  rw [z3w] at m9
  have s9 := s8.turn g9 m9 inv
  have h9 := st_past14 h8 g9 hne
  clear s8 m9 g9 h8
  go_wp2_with (refine wpList_load_is (by rfl) 27 _ rfl rfl h9 _ Tryd.underlying27 rfl st_size ?_)
  refine (fguest_any (hT.kept s9.k) s9.m s9.g kS14_ok 3 1).mono ?_
  rintro r w10 ⟨rfl, m10, g10⟩
  rw [z4]
  have s10 := s9.turn g10 m10 (inv_wipe inv _ 16)
  have h10 := st_past14 h9 g10 hne
  clear s9 m10 g10 h9
  go_wp2_with (refine wpList_load_is (by rfl) 27 _ rfl rfl h10 _ Tryd.underlying27 rfl st_size ?_)
  refine (fsfence_any (hT.kept s10.k) s10.m s10.g kS14_ok 4 (-1)).mono ?_
  rintro r w11 ⟨rfl, m11, g11⟩
  rw [z5]
  have s11 := s10.turn g11 m11 (inv_wipe (inv_wipe inv _ 16) _ 16)
  have h11 := st_past14 h10 g11 hne
  clear s10 m11 g11 h10
  go_wp2_with fail
  refine (tall_any (hT.kept s11.k).tl s11.m).mono ?_
  rintro r w12 ⟨v, rfl, ow, k12⟩
  obtain ⟨q, cap, rfl⟩ := ow.form
  rw [z6]
  have s12 := s11.kept k12
  clear s11 ow k12 h11 inv
  go_wp2_with fail
  go_ret
  exact ⟨rfl, s12.k⟩
/-- What the statements' own filled leaves: the first k of a row filled in. -/
def fillN (L : Nat → EntM) : Nat → Nat → EntM
  | 0 => noneT
  | k + 1 => fillT (fillN L k) (L k) (k : Int)
theorem inv_fillN (L : Nat → EntM) : ∀ k, InvG (fillN L k)
  | 0 => invG_none
  | k + 1 => inv_fillG (inv_fillN L k) _ _
def noneC : Array Value := (flatE (List.replicate 16 entNone)).toArray
theorem none_atC {w : World} {b : Nat} {t : TypeId} (hb : Blk w b t noneC) : TlAt w b noneT := by
  refine ⟨hb.lt, fun i hi j v hj => ?_, fun j hj => ?_⟩
  · refine hb.all (i * 9 + j) v ?_
    have hj9 : j < 9 := by
      have := (List.getElem?_eq_some_iff.1 hj).1
      rwa [ent9] at this
    have hl : i < (List.replicate 16 entNone).length := by rw [List.length_replicate]; exact hi
    have := flat_at (List.replicate 16 entNone) i hl j hj9
    rw [List.getElem_replicate] at this
    exact this.trans hj
  · unfold World.frozen?
    rw [hb]
    simp
/-- Both objects, made by the call itself. -/
structure Two14 (W w : World) (b rb : Nat) (T : Nat → EntM) : Prop where
  p : PTl w b T
  r : TlAt w rb T
  k : Kept W w
  hb : W.heap.size ≤ b
  hr : W.heap.size ≤ rb
  ne : b ≠ rb
theorem Two14.kept {W w w' : World} {b rb : Nat} {T : Nat → EntM} (h : Two14 W w b rb T) (g : Kept w w') : Two14 W w' b rb T := ⟨h.p.kept g, h.r.kept g, h.k.then g, h.hb, h.hr, h.ne⟩
theorem range_only {w w' : World} {S : Nat → Prop} {g o : Nat} {cs : List Value} (h : w.rangeAt g o cs) (k : Only S w w') (hn : ¬ S g) (hl : g < w.heap.size) : w'.rangeAt g o cs := fun i v hv => by
  rw [World.cell?_of_block (w := w) (a := ⟨g, o + i, none⟩) (k.same g hl hn)]
  exact h i v hv
set_option maxRecDepth 10000 in
set_option maxHeartbeats 4000000 in
theorem filled_any {W : World} (q : Option Addr) (n cp : Nat) (L : Nat → EntM) (hn : n ≤ 40) (hP : RowEn W q n L) (hT : Tab14 W) :
    Calls Tryd.prog 6 #[.slice q n cp] W fun e w' => ∃ b rb, e = .returned (.tuple #[.pointer (some ⟨b, 0, none⟩), .pointer (some ⟨rb, 0, none⟩)]) ∧ Two14 W w' b rb (fillN L n) := by
  go_enter Tryd.func6, Tryd.ntmps6
  go_wp2_with fail
  refine (tnew_any hT.tl).mono ?_
  rintro r w1 ⟨b, rfl, m1, hb1, k1⟩
  have nb := none_atC (alloc_last w1 noneC 52)
  have sy : Two14 W (w1.alloc (.cells noneC 52)) b w1.heap.size noneT :=
    ⟨m1.kept ((Only.refl _ w1).alloc _), nb, k1.alloc _, hb1, k1.size, by have := m1.lt; omega⟩
  go_upto_region 2 with (first | (refine wpList_built rfl 52 _ rfl noneC (by kernel_rfl) ?_))
  clear nb m1 hb1 k1
  generalize w1.alloc (.cells noneC 52) = w2 at sy ⊢
  generalize w1.heap.size = rb at sy ⊢
  go_wp2_with fail
  go_loopw [6] (fun i wr => ∃ j : Nat, j ≤ n ∧ i = .int .i64 (j : Int) ∧ Two14 W wr b rb (fillN L j)) (fun i _ => n - (intOf i).toNat)
  case atStart => exact ⟨0, by omega, rfl, sy⟩
  case round =>
    obtain ⟨j, hj, rfl, sj⟩ := hrel
    clear sy
    by_cases hlt : j < n
    · rcases hP.lies with h0 | ⟨gb, go, rfl, hpc⟩
      · omega
      have hlt' : (j : Int) < (n : Int) := by omega
      have hj0 : (0 : Int) ≤ (j : Int) := by omega
      have hj9 : (j : Int) ≤ 40 := by omega
      have hkeep : j < n := hlt
      have hgW : gb < W.heap.size := World.block_lt_of_cell? _ ⟨gb, go + j * 9, none⟩ (hpc j hlt 0 _ rfl)
      have hr : wr.rangeAt gb (go + j * 9) (entA (L j)) := fun i v hv => sj.k.cell (hpc j hlt i v hv)
      have hf : fillN L (j + 1) = fillT (fillN L j) (L j) (j : Int) := rfl
      have kb := sj.k.size
      have nb : ¬ gb = b := by have := sj.hb; omega
      clear hpc hP
      generalize fillN L j = T at sj hf
      generalize L j = e at hr hf
      go_upto_region 6 with (first | (refine wpList_load_mid rfl 47 _ rfl gb (go + j * 9) rfl (entA e) _ hr Tryd.underlying47 rfl (ent_size' _) ?_) | (go_at_call 18; refine (tfill_any (hT.kept sj.k).tl sj.p e (j : Int)).mono ?_; rintro r w4 ⟨rfl, m4, g4⟩))
      have hr4 := range_only hr g4 nb (by omega)
      have r4 : TlAt w4 rb T := sj.r.same g4 (fun x => sj.ne x.symm)
      have k4 : Kept W w4 := sj.k.new g4 fun i hi => by rw [hi]; exact sj.hb
      clear hr
      go_upto_region 4 with (first | (refine wpList_load_mid rfl 47 _ rfl gb (go + j * 9) rfl (entA e) _ hr4 Tryd.underlying47 rfl (ent_size' _) ?_) | (go_at_call 21; refine (rtfill_any r4 e (j : Int)).mono ?_; rintro r w5 ⟨rfl, m5, g5⟩))
      have s5 : Two14 W w5 b rb (fillT T e (j : Int)) := ⟨m4.same g5 sj.ne, m5, k4.new g5 fun i hi => by rw [hi]; exact sj.hr, sj.hb, sj.hr, sj.ne⟩
      rw [← hf] at s5
      clear sj m4 g4 r4 k4 m5 g5 hr4 hf
      go_wp2_with fail
      exact ⟨⟨j + 1, by omega, by go_num, s5⟩, by simp [intOf]; omega⟩
    · obtain rfl : j = n := by omega
      go_wp2_with fail
      refine bodyPost_ret (results_tmp2 rfl _ _ _) rfl ⟨b, rb, rfl, sj⟩
end Go.Proofs.YtpfblbleendpiaaDoor
