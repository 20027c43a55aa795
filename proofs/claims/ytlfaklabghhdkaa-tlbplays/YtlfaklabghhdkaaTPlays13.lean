/-
  What statement TlbPlays asks: every row of steps; walked over the contracts.
-/
import Derived.Test.YtlfaklabghhdkaaTlFace
import Derived.Test.YtlfaklabghhdkaaRefTl4
import Derived.Deep.CutRange
import Derived.Deep.CutBlock
import Derived.Deep.RegionHeld3
namespace Go.Proofs.Ytlfaklabghhdkaa
open Go.RowKit
/-- A step: what, the place picked, the entry. -/
structure StpT where
  what : Int
  pick : Int
  e : EntM
def stpT (s : StpT) : List Value := [.int .i64 s.what, .int .i64 s.pick] ++ entA s.e
def stpNone : StpT := ⟨0, 0, entNone⟩
theorem stp_zero : (Try.prog.info? 33).map (fun i => i.zero.map (·.cells)) = some (some (stpT stpNone).toArray) := by kernel_rfl
theorem stp_size (s : StpT) : (Try.prog.info? 33).map (·.size) = some (stpT s).toArray.size := by
  rw [show (stpT s).toArray.size = 11 from rfl]
  kernel_rfl
theorem stp_ones (s : StpT) : (stpT s).toArray.all (·.oneCell') = true := by simp [stpT, entA, Value.oneCell']
theorem stp_len (s : StpT) : (stpT s).toArray.size = 11 := rfl
/-- The entry within a step. -/
theorem Blk.ent2 {w : World} {b : Nat} {T : TypeId} {s : StpT} (h : Blk w b T (stpT s).toArray) : w.rangeAt b 2 (entA s.e) := fun j v hj => by
  refine h.all (2 + j) v ?_
  show (stpT s)[2 + j]? = some v
  unfold stpT
  rw [List.getElem?_append_right (by simp)]
  simpa using hj
/-- A row of steps that comes in. -/
structure RowT (w : World) (q : Option Addr) (n : Nat) (L : Nat → StpT) : Prop where
  lies : n = 0 ∨ ∃ b o, q = some ⟨b, o, none⟩ ∧ ∀ j, j < n → w.rangeAt b (o + j * 11) (stpT (L j))
def noneCells : Array Value := (flatE (List.replicate 16 entNone)).toArray
theorem none_at (w : World) : TlAt (w.alloc (.cells noneCells 31)) w.heap.size noneT := by
  have hb : Blk (w.alloc (.cells noneCells 31)) w.heap.size 31 noneCells := alloc_last w _ _
  refine ⟨hb.lt, fun i hi j v hj => ?_, fun j hj => ?_⟩
  · refine hb.all (i * 9 + j) v ?_
    have hj9 : j < 9 := by
      have := (List.getElem?_eq_some_iff.1 hj).1
      rwa [ent9] at this
    have hl : i < (List.replicate 16 entNone).length := by rw [List.length_replicate]; exact hi
    have := flat_at (List.replicate 16 entNone) i hl j hj9
    rw [List.getElem_replicate] at this
    exact this.trans hj
  · unfold World.frozen?
    rw [alloc_last]
    simp
/-- Both objects, made by the call itself. -/
structure Sys (W w : World) (b rb : Nat) (T : Nat → EntM) : Prop where
  p : PTl w b T
  r : TlAt w rb T
  k : Kept W w
  hb : W.heap.size ≤ b
  hr : W.heap.size ≤ rb
  ne : b ≠ rb
section
variable {W w w' : World} {b rb : Nat} {T : Nat → EntM}
theorem Sys.kept (h : Sys W w b rb T) (g : Kept w w') : Sys W w' b rb T := ⟨h.p.kept g, h.r.kept g, h.k.then g, h.hb, h.hr, h.ne⟩
end
set_option maxRecDepth 100000 in
set_option maxHeartbeats 8000000 in
theorem tplays_short (sq : Option Addr) (n cp : Nat) (L : Nat → StpT) (hn : n ≤ 80) (page asid vmid : Int) (v : Bool) {W : World} (hP : RowT W sq n L) (hT : Tab13 W) :
    Calls Try.prog 3 #[.slice sq n cp, .int .i64 page, .int .i64 asid, .int .i64 vmid, .bool v] W fun e w' => e = .returned (.bool true) ∧ Kept W w' := by
  have l1 : ¬ (80 : Int) < (n : Int) := by omega
  go_enter Try.func3, Try.ntmps3
  go_wp2_with fail
  refine (known13_any hT (Only.refl _ W)).mono ?_
  rintro e w1 ⟨rfl, k1⟩
  go_wp2_with fail
  refine (tnew_any (hT.kept k1)).mono ?_
  rintro e w2 ⟨b, rfl, m2, hb2, k2⟩
  go_upto_region 6 with (first | (refine wpList_built rfl 31 _ rfl noneCells (by kernel_rfl) ?_))
  have sy : Sys W (w2.alloc (.cells noneCells 31)) b w2.heap.size noneT :=
    ⟨m2.kept ((Only.refl _ w2).alloc _), none_at w2, (k1.then k2).alloc _, Nat.le_trans k1.size hb2, Nat.le_trans k1.size k2.size, by have := m2.lt; omega⟩
  generalize w2.alloc (.cells noneCells 31) = w3 at sy ⊢
  generalize w2.heap.size = rb0 at sy ⊢
  clear m2 hb2 k2 k1
  go_wp2_with fail
  go_loopw [13, 12] (fun i r wr => ∃ (j : Nat) (T : Nat → EntM) (rb : Nat), j ≤ n ∧ i = .int .i64 (j : Int) ∧ r = .pointer (some ⟨rb, 0, none⟩) ∧ Sys W wr b rb T) (fun i _ _ => n - (intOf i).toNat)
  case atStart => exact ⟨0, noneT, rb0, by omega, rfl, rfl, sy⟩
  case round =>
    obtain ⟨j, T, rb, hj, rfl, rfl, sj⟩ := hrel
    clear sy
    by_cases hlt : j < n
    · rcases hP.lies with h0 | ⟨gb, go, rfl, hpc⟩
      · omega
      have hlt' : (j : Int) < (n : Int) := by omega
      have hj0 : (0 : Int) ≤ (j : Int) := by omega
      have hj9 : (j : Int) ≤ 80 := by omega
      have hkeep : j < n := hlt
      have hr := range_kept (hpc j hlt) sj.k
      clear hpc hP
      generalize L j = s at hr
      go_upto_region 10 with (first | (refine wpList_load_mid rfl 33 _ rfl gb (go + j * 11) rfl (stpT s) _ hr Try.underlying33 rfl (stp_size _) ?_) | (refine wpList_alloc_go rfl 33 rfl (stpT stpNone).toArray stp_zero ?_; intro sb w4 n4 k4 m4 e4) | (refine wpList_store_go rfl 33 _ _ rfl sb (stpT s).toArray rfl rfl e4 (stp_size _) ((stp_len _).trans (stp_len _).symm) (stp_ones _) ?_; intro w5 o5 e5))
      have sy5 : Sys W w5 b rb T := sj.kept (k4.new o5 fun i hi => by omega)
      have hsb0 : wr.heap.size ≤ sb := by omega
      have nb : sb ≠ b := by have := sj.p.lt; omega
      have nr : sb ≠ rb := by have := sj.r.lt; omega
      clear sj hr k4 o5 e4 n4 m4
      go_wp2_with fail
      refine (tcopy_any (hT.kept sy5.k) sy5.p).mono ?_
      rintro e w6 ⟨c, rfl, mc, hc, k6⟩
      have sy6 := sy5.kept k6
      have e6 : Blk w6 sb 33 (stpT s).toArray := e5.kept k6
      have cb : c ≠ b := by have := sy5.p.lt; omega
      have cr : c ≠ rb := by have := sy5.r.lt; omega
      have cs : c ≠ sb := by have := e5.lt; omega
      have hcW : W.heap.size ≤ c := Nat.le_trans sy5.k.size hc
      clear sy5 e5 hc k6
      have d0 : _ = some (Value.int .i64 s.what) := e6.cell 0
      have d1 : _ = some (Value.int .i64 s.pick) := e6.cell 1
      go_upto_block 2 with fail
      go_cut [12] from 28 to 112 (fun t12 wx => ∃ (T' : Nat → EntM) (rb' : Nat), t12 = .pointer (some ⟨rb', 0, none⟩) ∧ Sys W wx b rb' T' ∧ PTl wx c T ∧ c ≠ rb')
      case first =>
        by_cases h2 : s.what ≤ 2
        · go_upto_region 16 with (first | (refine wpList_load_mid rfl 28 _ rfl sb 2 rfl (entA s.e) _ e6.ent2 Try.underlying28 rfl (ent_size' _) ?_) | (go_at_call 10; refine (tfill_any (hT.kept sy6.k) sy6.p s.e s.pick).mono ?_; rintro r7 w7 ⟨rfl, m7, g7⟩))
          have e7 : Blk w7 sb 33 (stpT s).toArray := g7.block e6 nb
          have x0 : _ = some (Value.int .i64 s.what) := e7.cell 0
          have x1 : _ = some (Value.int .i64 s.pick) := e7.cell 1
          have r7 := sy6.r.same g7 (fun h => sy6.ne h.symm)
          have c7 := mc.same g7 cb
          have k7 : Kept W w7 := sy6.k.new g7 fun i hi => by rw [hi]; exact sy6.hb
          have hb7 := sy6.hb
          have hr7 := sy6.hr
          have ne7 := sy6.ne
          clear d0 d1 e6 sy6 mc g7
          go_wp2_with (first | (refine wpList_load_mid rfl 28 _ rfl sb 2 rfl (entA s.e) _ e7.ent2 Try.underlying28 rfl (ent_size' _) ?_) | (go_at_call 11; refine (rtfill_any r7 s.e s.pick).mono ?_; rintro r8 w8 ⟨rfl, m8, g8⟩))
          go_meet
          case rel => exact ⟨_, rb, rfl, ⟨m7.same g8 ne7, m8, k7.new g8 fun i hi => (by rw [hi]; exact hr7), hb7, hr7, ne7⟩, c7.same g8 cr, cr⟩
        · by_cases h3 : s.what = 3
          · go_upto_region 18 with fail
            have e6d := e6.kept ((Only.refl _ w6).drew)
            have s9 := sy6.kept ((Only.refl _ w6).drew)
            have c9 := mc.kept ((Only.refl _ w6).drew)
            have ne9 := sy6.ne
            clear d0 d1 e6 sy6 mc
            refine wp_region_held_drew (S := fun w2 => Only (fun i => i = b ∨ i = rb) w6.drew w2) (by kernel_rfl) (Only.refl _ _) (fun hHeld => ?_)
            refine wpAnyH_take (i := 0) (v := ?_) rfl (by kernel_rfl) (by kernel_rfl) (by kernel_rfl) (fun _ _ _ h => h) (Or.inl ⟨by rfl, ?_⟩) hHeld ?_
            rotate_left
            · intro w2 hSw
              go_simp
              all_goals rfl
            try simp only [Act.put, List.getElem_toArray, List.getElem_cons_zero, List.setIfInBounds_toArray, List.set_cons_zero, List.set_cons_succ]
            refine wpAnyH_take (i := 1) (v := ?_) rfl (by kernel_rfl) (by kernel_rfl) (by kernel_rfl) (fun _ _ _ h => h) (Or.inl ⟨by rfl, ?_⟩) hHeld ?_
            rotate_left
            · intro w2 hSw
              go_simp
              all_goals rfl
            try simp only [Act.put, List.getElem_toArray, List.getElem_cons_zero, List.getElem_cons_succ, List.setIfInBounds_toArray, List.set_cons_zero, List.set_cons_succ]
            refine wpAnyH_take (i := 2) (v := .agg (entA s.e).toArray) rfl (by kernel_rfl) (by kernel_rfl) (by kernel_rfl) (fun _ _ _ h => h) (Or.inl ⟨by rfl, ?_⟩) hHeld ?_
            · intro w2 hSw
              exact exec_load rfl rfl (run_loadVar_mid w2 sb 2 _ (entA s.e) _ (Blk.ent2 (hSw.block e6d (by omega))) Try.underlying28 rfl (ent_size' _))
            try simp only [Act.put, List.getElem_toArray, List.getElem_cons_zero, List.getElem_cons_succ, List.setIfInBounds_toArray, List.set_cons_zero, List.set_cons_succ]
            refine wpAnyH_take (i := 4) (v := ?_) rfl (by kernel_rfl) (by kernel_rfl) (by kernel_rfl) (fun _ _ _ h => h) (Or.inl ⟨by rfl, ?_⟩) hHeld ?_
            rotate_left
            · intro w2 hSw
              go_simp
              all_goals rfl
            try simp only [Act.put, List.getElem_toArray, List.getElem_cons_zero, List.getElem_cons_succ, List.setIfInBounds_toArray, List.set_cons_zero, List.set_cons_succ]
            refine wpAnyH_take (i := 5) (v := ?_) rfl (by kernel_rfl) (by kernel_rfl) (by kernel_rfl) (fun _ _ _ h => h) (Or.inl ⟨by rfl, ?_⟩) hHeld ?_
            rotate_left
            · intro w2 hSw
              go_simp
              all_goals rfl
            try simp only [Act.put, List.getElem_toArray, List.getElem_cons_zero, List.getElem_cons_succ, List.setIfInBounds_toArray, List.set_cons_zero, List.set_cons_succ]
            refine wpAnyH_take (i := 6) (v := .agg (entA s.e).toArray) rfl (by kernel_rfl) (by kernel_rfl) (by kernel_rfl) (fun _ _ _ h => h) (Or.inl ⟨by rfl, ?_⟩) hHeld ?_
            · intro w2 hSw
              exact exec_load rfl rfl (run_loadVar_mid w2 sb 2 _ (entA s.e) _ (Blk.ent2 (hSw.block e6d (by omega))) Try.underlying28 rfl (ent_size' _))
            try simp only [Act.put, List.getElem_toArray, List.getElem_cons_zero, List.getElem_cons_succ, List.setIfInBounds_toArray, List.set_cons_zero, List.set_cons_succ]
            refine wpAnyH_ready (rs := [3]) (by kernel_rfl) (by simp) ?_
            refine AllReadyH.cons rfl (fun K hK => ?_) AllReadyH.nil
            go_simp
            refine (tdrop_any (hT.kept s9.k) s9.p s.e).mono ?_
            rintro e w7 ⟨rfl, m7, g7⟩
            go_simp
            have r7 := s9.r.same g7 (fun h => ne9 h.symm)
            have c7 := c9.same g7 cb
            refine hK.out _ _ (hHeld.trans (g7.mono fun i h => .inl h)) (fun hHeld => ?_)
            clear hK K c9
            try simp only [Act.put, List.getElem_toArray, List.getElem_cons_zero, List.getElem_cons_succ, List.setIfInBounds_toArray, List.set_cons_zero, List.set_cons_succ]
            refine wpAnyH_ready (rs := [7]) (by kernel_rfl) (by simp) ?_
            refine AllReadyH.cons rfl (fun K hK => ?_) AllReadyH.nil
            go_simp
            refine (rtdrop_any r7 s.e).mono ?_
            rintro e w8 ⟨rfl, m8, g8⟩
            go_simp
            have s8 : Sys W w8 b rb (dropT T s.e) := ⟨m7.same g8 ne9, m8, (s9.k.new g7 fun i hi => by rw [hi]; exact s9.hb).new g8 fun i hi => (by rw [hi]; exact s9.hr), s9.hb, s9.hr, ne9⟩
            have c8 := c7.same g8 cr
            refine hK.out _ _ (hHeld.trans (g8.mono fun i h => .inr h)) (fun hHeld => ?_)
            clear hK K s9 r7 m7 m8 g7 g8 c7 e6d
            generalize decide (0 ≤ dropI T s.e) = dx
            try simp only [Act.put, List.getElem_toArray, List.getElem_cons_zero, List.getElem_cons_succ, List.setIfInBounds_toArray, List.set_cons_zero, List.set_cons_succ]
            refine wpAnyH_take (i := 8) (v := ?_) rfl (by kernel_rfl) (by kernel_rfl) (by kernel_rfl) (fun _ _ _ h => h) (Or.inl ⟨by rfl, ?_⟩) hHeld ?_
            rotate_left
            · intro w2 hSw
              go_simp
              all_goals rfl
            try simp only [Act.put, List.getElem_toArray, List.getElem_cons_zero, List.getElem_cons_succ, List.setIfInBounds_toArray, List.set_cons_zero, List.set_cons_succ]
            refine wpAnyH_done (by kernel_rfl) ?_ _
            go_wp2_with fail
            go_meet
            case rel => exact ⟨_, rb, rfl, s8, c8, cr⟩
          · go_wp2_with fail
            refine (tflush_any (hT.kept sy6.k) sy6.p).mono ?_
            rintro e w7 ⟨rfl, m7, g7⟩
            have r7 := sy6.r.same g7 (fun h => sy6.ne h.symm)
            have c7 := mc.same g7 cb
            have k7 : Kept W w7 := sy6.k.new g7 fun i hi => by rw [hi]; exact sy6.hb
            have hb7 := sy6.hb
            clear d0 d1 e6 sy6 mc g7
            go_wp2_with fail
            refine (rtall_any r7).mono ?_
            rintro e w8 ⟨v8, rfl, ow, k8⟩
            obtain ⟨q8, cap8, rfl⟩ := ow.form
            have m8 := m7.kept k8
            have c8 := c7.kept k8
            have k9 := k7.then k8
            clear ow r7 m7 c7 k7 k8
            go_wp2_with (refine wpList_built rfl 31 _ rfl noneCells (by kernel_rfl) ?_)
            go_meet
            case rel => exact ⟨noneT, w8.heap.size, rfl, ⟨m8.kept ((Only.refl _ w8).alloc _), none_at w8, k9.alloc _, hb7, k9.size, by have := m8.lt; omega⟩, c8.kept ((Only.refl _ w8).alloc _), by have := c8.lt; omega⟩
      case rest =>
        obtain ⟨T', rb', rfl, sy, mc, cr'⟩ := hcut
        go_wp2_with fail
        refine (tflush_any (hT.kept sy.k) mc).mono ?_
        rintro e w7 ⟨rfl, m7, g7⟩
        have s7 : Sys W w7 b rb' T' := ⟨sy.p.same g7 cb.symm, sy.r.same g7 cr'.symm, sy.k.new g7 fun i hi => (by rw [hi]; exact hcW), sy.hb, sy.hr, sy.ne⟩
        clear sy mc m7 g7
        obtain ⟨X, hX⟩ : ∃ X, lookT T' page v asid vmid = X := ⟨_, rfl⟩
        obtain ⟨I, hI⟩ : ∃ I, isT T' page v asid vmid = I := ⟨_, rfl⟩
        go_upto_region 22 with (first | (go_at_call 16; refine (tlook_any (hT.kept s7.k) s7.p page v asid vmid).mono ?_; rintro r w8 ⟨rfl, k8⟩; rw [hX, hI]) | (refine wpList_alloc_go rfl 28 rfl (entA entNone).toArray ent_zero' ?_; intro fb w9 n9 k9 m9 f9) | (refine wpList_store_go rfl 28 _ _ rfl fb (entA X).toArray rfl rfl f9 (ent_size' _) ((ent_len _).trans (ent_len _).symm) (ent_ones' _) ?_; intro w10 o10 f10))
        have kk : Kept w7 w10 := (k8.then k9).new o10 fun i hi => by have := k8.size; omega
        have s10 := s7.kept kk
        clear s7 k8 k9 o10 f9 kk
        go_upto_region 23 with (first | (go_at_call 17; refine (rtlook_any s10.r page v asid vmid).mono ?_; rintro r w11 ⟨rfl, k11⟩; rw [hX, hI]) | (refine wpList_alloc_go rfl 28 rfl (entA entNone).toArray ent_zero' ?_; intro gb w12 n12 k12 m12 f12) | (refine wpList_store_go rfl 28 _ _ rfl gb (entA X).toArray rfl rfl f12 (ent_size' _) ((ent_len _).trans (ent_len _).symm) (ent_ones' _) ?_; intro w13 o13 f13))
        have kk : Kept w10 w13 := (k11.then k12).new o13 fun i hi => by have := k11.size; omega
        have s13 := s10.kept kk
        have h13 := f10.kept kk
        clear s10 f10 k11 k12 o13 f12 kk
        go_wp2_with fail
        refine (tall_any (hT.kept s13.k) s13.p).mono ?_
        rintro e w14 ⟨v14, rfl, ow14, k14⟩
        obtain ⟨q14, p14, rfl⟩ := ow14.form
        have s14 := s13.kept k14
        go_wp2_with fail
        refine (rtall_any s14.r).mono ?_
        rintro e w15 ⟨v15, rfl, ow15, k15⟩
        obtain ⟨q15, p15, rfl⟩ := ow15.form
        have hlen := all_len T' 16 0
        have row14 := (ow14.kept k15).row
        have row15 := ow15.row
        go_wp2_with fail
        refine (same_any (by unfold allT; omega) row14 row15).mono ?_
        rintro e w16 ⟨rfl, k16⟩
        have kk := (k14.then k15).then k16
        have s16 := s13.kept kk
        have h16 := h13.kept kk
        have f16 := f13.kept kk
        have hq := fun w => ne_self9 X w
        have hk2 : j < n := hkeep
        clear s13 s14 h13 f13 k14 k15 k16 kk ow14 ow15 row14 row15
        go_wp2_with (first | (refine wpList_load_blk (by rfl) 28 _ rfl fb rfl h16 _ Try.underlying28 rfl (ent_size' _) ?_) | (refine wpList_load_blk (by rfl) 28 _ rfl gb rfl f16 _ Try.underlying28 rfl (ent_size' _) ?_))
        exact ⟨⟨j + 1, T', rb', by omega, by go_num, rfl, s16⟩, by simp [intOf]; omega⟩
    · obtain rfl : j = n := by omega
      go_wp2_with fail
      go_ret
      exact ⟨rfl, sj.k⟩
set_option maxHeartbeats 1000000 in
theorem tplays_any (sq : Option Addr) (n cp : Nat) (L : Nat → StpT) (page asid vmid : Int) (v : Bool) {W : World} (hP : RowT W sq n L) (hT : Tab13 W) :
    Calls Try.prog 3 #[.slice sq n cp, .int .i64 page, .int .i64 asid, .int .i64 vmid, .bool v] W fun e w' => e = .returned (.bool true) ∧ Kept W w' := by
  by_cases hn : n ≤ 80
  · exact tplays_short sq n cp L hn page asid vmid v hP hT
  · have l1 : (80 : Int) < (n : Int) := by omega
    clear hP hn
    go_enter Try.func3, Try.ntmps3
    go_wp2_with fail
    refine (known13_any hT (Only.refl _ W)).mono ?_
    rintro e w1 ⟨rfl, k1⟩
    go_wp2
    go_ret
    exact ⟨rfl, k1⟩
end Go.Proofs.Ytlfaklabghhdkaa
