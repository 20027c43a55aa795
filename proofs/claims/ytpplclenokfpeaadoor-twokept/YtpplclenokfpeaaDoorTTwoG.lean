/-
  What goBoth of package two's way answers: its loop walked, for every argument.
-/
import Derived.Test.YtpplclenokfpeaaDoorTTwoL
import Derived.Test.YtpplclenokfpeaaDoorTTwoM
import Derived.WalkMore
namespace Go.Proofs.YtpplclenokfpeaaDoor
open Go.RowKit
section
variable {w wr : World} {p q : Nat} {B : Nat → Int} {b : Nat} {a : AskM} {at_ k : Int} {user : Bool} {place lies bts host : Int}
theorem Tab12.past {w w' : World} (h : Tab12 w) (g : Only (fun i => i = b) w w') (hn : b ≠ 0) : Tab12 w' := ⟨fun i v hi => by
  have hc := h.r i v hi
  unfold World.cell? at hc ⊢
  by_cases hl : 0 < w.heap.size
  · rw [g.same _ hl (fun e => hn e.symm)]; exact hc
  · rw [Array.getElem?_eq_none (by simpa using hl)] at hc; cases hc⟩
structure GsAll (wr : World) (b p : Nat) (a : AskM) (at_ k : Int) (user : Bool) (place lies bts host : Int) (tab : Bool) (g : Gst) : Prop where
  a : Calls Tryd.prog 50 #[.pointer (some ⟨b, 0, none⟩), .bool tab] wr fun e w' => e = .returned (.int .i64 (wrongI g.c)) ∧ Only (fun i => i = b) wr w' ∧ Wy w' b (.pointer (some ⟨p, 0, none⟩)) a at_ k user place g.p bts (gstB g)
structure EnAll (w : World) (b p : Nat) (f i e : Int) (o : Bool) : Prop where
  a : ∀ w1, Only (fun i => i = b) w w1 → Calls Tryd.prog 51 #[.pointer (some ⟨p, 0, none⟩), .int .i64 f, .int .i64 i] w1 fun r w2 => r = .returned (.tuple #[.int .u64 e, .bool o]) ∧ Kept w1 w2
set_option maxRecDepth 10000 in
set_option maxHeartbeats 16000000 in
theorem goboth_any (hT : Tab12 w) (hm : ProgAt w p q B) (hg : b ≠ 0) (hp : b ≠ p) (hq : b ≠ q) (hb : Wy w b (.pointer (some ⟨p, 0, none⟩)) a at_ k user place lies bts host) (h0 : 0 ≤ at_) (h1' : at_ < 65536) (hr0 : 0 ≤ a.root) (hr1 : a.root < 256) :
    Calls Tryd.prog 29 #[.pointer (some ⟨b, 0, none⟩)] w fun e w' => ∃ wr place lies bts host, e = .returned (.int .i64 wr) ∧ Only (fun i => i = b) w w' ∧ Wy w' b (.pointer (some ⟨p, 0, none⟩)) a at_ k user place lies bts host ∧ DoneW B a at_ k user wr place lies bts host := by
  have ht := top_bd at_
  have hlw := low_bd at_
  have b1 : Wy ((w.setCell ⟨b, 12, none⟩ (.int .u64 at_)).setCell ⟨b, 14, none⟩ (.int .i64 255)) b (.pointer (some ⟨p, 0, none⟩)) a at_ k user at_ lies 255 host := blk_set (blk_set hb 12 _) 14 _
  have o1 : Only (fun i => i = b) w ((w.setCell ⟨b, 12, none⟩ (.int .u64 at_)).setCell ⟨b, 14, none⟩ (.int .i64 255)) := ((Only.refl (fun i => i = b) w).setCell rfl _).setCell rfl _
  obtain ⟨z0, z1, z2, z3, z4, z5, z6, z7, z8, z9, z10, z11, z12, z13, z14, z15⟩ := wy_cells hb
  clear z0 z1 z2 z3 z4 z5 z6 z7 z8 z10 z11 z13 z15
  have y12 := blk_loose hb 12
  have y14 := blk_loose hb 14
  clear hb
  go_enter Tryd.func29, Tryd.ntmps29
  go_wp2_with fail
  go_step3
  go_upto_region 2 with fail
  clear z9 z12 z14 y12 y14
  generalize ((w.setCell ⟨b, 12, none⟩ (.int .u64 at_)).setCell ⟨b, 14, none⟩ (.int .i64 255)) = w1 at b1 o1 ⊢
  have y1 : _ = some (Value.bool a.first) := Blk.cell b1 1
  have y7 : _ = some (Value.int .i64 a.root) := Blk.cell b1 7
  cases hf : a.first
  · rw [hf] at y1
    go_wp2_with fail
    go_step3
    go_wp2_with fail
    clear y1 y7
    go_loopw [3] (fun t wr => ∃ place lies bts host : Int, t = .int .i64 0 ∧ (0 ≤ place ∧ place < 131072 ∧ ∀ v, restS B a at_ k user v = endS B a at_ place k bts v false) ∧ Wy wr b (.pointer (some ⟨p, 0, none⟩)) a at_ k user place lies bts host ∧ Only (fun i => i = b) w wr) (fun _ _ => 0)
    case atStart => exact ⟨at_, lies, 255, host, rfl, ⟨h0, by omega, fun v => by unfold restS; rw [if_pos hf]⟩, b1, o1⟩
    case round =>
      clear b1 o1
      obtain ⟨place, lies, bts, host, rfl, ⟨p0, p1, hr⟩, hb, ox⟩ := hrel
      have hgs := gst_bd hm.byte a place k false p0
      have hed := fun v => end_at (a := a) (at_ := at_) (k := k) (v := v) (b := bts) hm.byte p0
      have hpU : U place := by unfold U; omega
      have hsec : GsAll wr b p a at_ k user place lies bts host false (gstS B a place k false) := ⟨gosecond_end (hT.past ox hg) (hm.carry ox hp.symm hq.symm) hb hpU⟩
      clear hb
      generalize gstS B a place k false = g at *
      obtain ⟨gp, gb, gc⟩ := g
      simp only at hgs hed
      obtain ⟨g0, g1, hcc⟩ := hgs
      have hgU : U gp := by unfold U; omega
      rcases hcc with rfl | rfl | rfl
      · have hw : wrongI 0 = 0 := rfl
        go_wp2_with fail
        refine hsec.a.mono ?_
        rintro e w2 ⟨rfl, o2, b2⟩
        rw [hw]
        clear hsec
        go_wp2_with fail
        rw [Exit.noGoto_ret]
        go_ret
        exact ⟨0, _, _, _, _, rfl, ox.trans o2, b2, ⟨by omega, hpU, hgU, fun v => (hr v).trans (hed v)⟩⟩
      · have hw : wrongI 1 = 2 := rfl
        go_wp2_with fail
        refine hsec.a.mono ?_
        rintro e w2 ⟨rfl, o2, b2⟩
        rw [hw]
        clear hsec
        go_wp2_with fail
        rw [Exit.noGoto_ret]
        go_ret
        exact ⟨2, _, _, _, _, rfl, ox.trans o2, b2, ⟨by omega, hpU, hgU, fun v => (hr v).trans (hed v)⟩⟩
      · have hw : wrongI 2 = 3 := rfl
        go_wp2_with fail
        refine hsec.a.mono ?_
        rintro e w2 ⟨rfl, o2, b2⟩
        rw [hw]
        clear hsec
        go_wp2_with fail
        rw [Exit.noGoto_ret]
        go_ret
        exact ⟨3, _, _, _, _, rfl, ox.trans o2, b2, ⟨by omega, hpU, hgU, fun v => (hr v).trans (hed v)⟩⟩
  · rw [hf] at y1
    go_wp2_with fail
    refine (toentry_16 b1 h0 h1' _ hr0 hr1).mono ?_
    rintro r w2 ⟨rfl, o2, b2⟩
    have ox2 := o1.trans o2
    clear b1 o1 o2 y1 y7
    go_wp2_with fail
    go_step3
    go_wp2_with fail
    go_loopw [3] (fun t wr => ∃ many place lies bts host : Int, t = .int .i64 many ∧ AtW B a at_ k user many place bts ∧ Wy wr b (.pointer (some ⟨p, 0, none⟩)) a at_ k user place lies bts host ∧ Only (fun i => i = b) w wr) (fun t _ => (intOf t).toNat)
    case atStart => exact ⟨16, _, _, _, _, rfl, .inl ⟨rfl, hf, rfl, hr0, hr1⟩, b2, ox2⟩
    case round =>
      clear b2 ox2
      obtain ⟨many, place, lies, bts, host, rfl, hat, hb, ox⟩ := hrel
      have e1 : at_ / 256 / 16 % 16 = topI at_ := by unfold topI; omega
      clear hf
      rcases hat with ⟨rfl, h1, rfl, t0, t1⟩ | ⟨rfl, h1, es, hs1, hi1, hl1, rfl⟩ | ⟨rfl, p0, p1, hr⟩
      · have i0 := ht.1
        have i1 := ht.2
        have hgs := gst_bd hm.byte a (a.root * 256 + 8 * topI at_) 1 false (by omega)
        have st1 := stp_1 (B := B) (a := a) (k := k) (t := a.root) (i := topI at_)
        have st2 := stp_2 (B := B) (a := a) (k := k) (t := a.root) (i := topI at_)
        have st0 := stp_0 (k := k) hm.byte (a := a) (t := a.root) (i := topI at_) t0 i0 i1
        have hpU : U (a.root * 256 + 8 * topI at_) := by unfold U; omega
        have hsec : GsAll wr b p a at_ k user (a.root * 256 + 8 * topI at_) lies bts host true (gstS B a (a.root * 256 + 8 * topI at_) 1 false) := ⟨gosecond_tab (hT.past ox hg) (hm.carry ox hp.symm hq.symm) hb hpU⟩
        clear hb
        generalize gstS B a (a.root * 256 + 8 * topI at_) 1 false = g at *
        obtain ⟨gp, gb, gc⟩ := g
        simp only at hgs st1 st2 st0
        obtain ⟨g0, g1, hcc⟩ := hgs
        have hgU : U gp := by unfold U; omega
        rcases hcc with rfl | rfl | rfl
        · have hw : wrongI 0 = 0 := rfl
          have sq := st0 rfl
          clear st0 st1 st2
          have hen : EnAll w b p (gp / 256) (gp % 256 / 8) (entE B (gp / 256) (gp % 256 / 8)) (entO (gp / 256) (gp % 256 / 8)) := ⟨fun w1 o1 => wentry_any ⟨rfl⟩ (hm.carry o1 hp.symm hq.symm) _ _⟩
          have heU := U_ent hm.byte (gp / 256) (gp % 256 / 8)
          generalize entE B (gp / 256) (gp % 256 / 8) = x at *
          generalize entO (gp / 256) (gp % 256 / 8) = o at *
          have hq8 : IntKind.i64.wrap (IntKind.u64.wrap ((gp.tmod 256).tdiv 8)) = gp % 256 / 8 := by rw [Int.tmod_eq_emod_of_nonneg g0, Int.tdiv_eq_ediv_of_nonneg (by omega), IntKind.wrap_u64, IntKind.wrap_i64]; omega
          have f1 : 0 ≤ gp / 256 := by omega
          cases o
          · rw [cond_false] at sq
            go_wp2_with fail
            refine hsec.a.mono ?_
            rintro e w2 ⟨rfl, o2, b2⟩
            rw [hw]
            clear hsec
            go_upto_region 11 with fail
            have o2d : Only (fun i => i = b) w w2.drew := (ox.trans o2).drew
            have b2d := b2.kept ((Only.refl (fun _ => False) w2).drew)
            clear b2 o2
            refine wp_region_held_drew (S := fun w2 => ∃ x y, Wy w2 b (.pointer (some ⟨p, 0, none⟩)) a at_ k user x gp bts y) (by kernel_rfl) ⟨_, _, b2d⟩ (fun hHeld => ?_)
            generalize w2.drew = wd at b2d hHeld o2d ⊢
            refine wpAnyH_take (i := 0) (v := ?_) rfl (by kernel_rfl) (by kernel_rfl) (by kernel_rfl) (fun _ _ _ h => h) (Or.inl ⟨by rfl, ?_⟩) hHeld ?_
            rotate_left
            · intro w2 hSw
              clear hSw
              go_simp
              all_goals rfl
            try simp only [Act.put, List.getElem_toArray, List.getElem_cons_zero, List.setIfInBounds_toArray, List.set_cons_zero, List.set_cons_succ]
            refine wpAnyH_take (i := 1) (v := ?_) rfl (by kernel_rfl) (by kernel_rfl) (by kernel_rfl) (fun _ _ _ h => h) (Or.inl ⟨by rfl, ?_⟩) hHeld ?_
            rotate_left
            · intro w2 hSw
              clear hSw
              go_simp
              all_goals rfl
            try simp only [Act.put, List.getElem_toArray, List.getElem_cons_zero, List.getElem_cons_succ, List.setIfInBounds_toArray, List.set_cons_zero, List.set_cons_succ]
            refine wpAnyH_take (i := 2) (v := ?_) rfl (by kernel_rfl) (by kernel_rfl) (by kernel_rfl) (fun _ _ _ h => h) (Or.inl ⟨by rfl, ?_⟩) hHeld ?_
            rotate_left
            · intro w2 hSw
              clear hSw
              go_simp
              all_goals rfl
            try simp only [Act.put, List.getElem_toArray, List.getElem_cons_zero, List.getElem_cons_succ, List.setIfInBounds_toArray, List.set_cons_zero, List.set_cons_succ]
            refine wpAnyH_take (i := 3) (v := ?_) rfl (by kernel_rfl) (by kernel_rfl) (by kernel_rfl) (fun _ _ _ h => h) (Or.inl ⟨by rfl, ?_⟩) hHeld ?_
            rotate_left
            · intro w2 hSw
              obtain ⟨_, _, hSw⟩ := hSw
              obtain ⟨z0, z1, z2, z3, z4, z5, z6, z7, z8, z9, z10, z11, z12, z13, z14, z15⟩ := wy_cells hSw
              clear hSw
              go_simp
              all_goals rfl
            try simp only [Act.put, List.getElem_toArray, List.getElem_cons_zero, List.getElem_cons_succ, List.setIfInBounds_toArray, List.set_cons_zero, List.set_cons_succ]
            refine wpAnyH_take (i := 4) (v := ?_) rfl (by kernel_rfl) (by kernel_rfl) (by kernel_rfl) (fun _ _ _ h => h) (Or.inl ⟨by rfl, ?_⟩) hHeld ?_
            rotate_left
            · intro w2 hSw
              clear hSw
              go_simp
              all_goals rfl
            try simp only [Act.put, List.getElem_toArray, List.getElem_cons_zero, List.getElem_cons_succ, List.setIfInBounds_toArray, List.set_cons_zero, List.set_cons_succ]
            refine wpAnyH_take (i := 5) (v := ?_) rfl (by kernel_rfl) (by kernel_rfl) (by kernel_rfl) (fun _ _ _ h => h) (Or.inl ⟨by rfl, ?_⟩) hHeld ?_
            rotate_left
            · intro w2 hSw
              clear hSw
              go_simp
              all_goals rfl
            try simp only [Act.put, List.getElem_toArray, List.getElem_cons_zero, List.getElem_cons_succ, List.setIfInBounds_toArray, List.set_cons_zero, List.set_cons_succ]
            refine wpAnyH_take (i := 6) (v := ?_) rfl (by kernel_rfl) (by kernel_rfl) (by kernel_rfl) (fun _ _ _ h => h) (Or.inl ⟨by rfl, ?_⟩) hHeld ?_
            rotate_left
            · intro w2 hSw
              clear hSw
              go_simp
              all_goals rfl
            try simp only [Act.put, List.getElem_toArray, List.getElem_cons_zero, List.getElem_cons_succ, List.setIfInBounds_toArray, List.set_cons_zero, List.set_cons_succ]
            refine wpAnyH_take (i := 7) (v := ?_) rfl (by kernel_rfl) (by kernel_rfl) (by kernel_rfl) (fun _ _ _ h => h) (Or.inl ⟨by rfl, ?_⟩) hHeld ?_
            rotate_left
            · intro w2 hSw
              obtain ⟨_, _, hSw⟩ := hSw
              obtain ⟨z0, z1, z2, z3, z4, z5, z6, z7, z8, z9, z10, z11, z12, z13, z14, z15⟩ := wy_cells hSw
              clear hSw
              go_simp
              all_goals rfl
            try simp only [Act.put, List.getElem_toArray, List.getElem_cons_zero, List.getElem_cons_succ, List.setIfInBounds_toArray, List.set_cons_zero, List.set_cons_succ]
            refine wpAnyH_take (i := 9) (v := ?_) rfl (by kernel_rfl) (by kernel_rfl) (by kernel_rfl) (fun _ _ _ h => h) (Or.inl ⟨by rfl, ?_⟩) hHeld ?_
            rotate_left
            · intro w2 hSw
              clear hSw
              go_simp
              all_goals rfl
            try simp only [Act.put, List.getElem_toArray, List.getElem_cons_zero, List.getElem_cons_succ, List.setIfInBounds_toArray, List.set_cons_zero, List.set_cons_succ]
            refine wpAnyH_take (i := 10) (v := ?_) rfl (by kernel_rfl) (by kernel_rfl) (by kernel_rfl) (fun _ _ _ h => h) (Or.inl ⟨by rfl, ?_⟩) hHeld ?_
            rotate_left
            · intro w2 hSw
              clear hSw
              go_simp
              all_goals rfl
            try simp only [Act.put, List.getElem_toArray, List.getElem_cons_zero, List.getElem_cons_succ, List.setIfInBounds_toArray, List.set_cons_zero, List.set_cons_succ]
            refine wpAnyH_take (i := 11) (v := ?_) rfl (by kernel_rfl) (by kernel_rfl) (by kernel_rfl) (fun _ _ _ h => h) (Or.inl ⟨by rfl, ?_⟩) hHeld ?_
            rotate_left
            · intro w2 hSw
              clear hSw
              go_simp
              all_goals rfl
            try simp only [Act.put, List.getElem_toArray, List.getElem_cons_zero, List.getElem_cons_succ, List.setIfInBounds_toArray, List.set_cons_zero, List.set_cons_succ]
            refine wpAnyH_take (i := 12) (v := ?_) rfl (by kernel_rfl) (by kernel_rfl) (by kernel_rfl) (fun _ _ _ h => h) (Or.inl ⟨by rfl, ?_⟩) hHeld ?_
            rotate_left
            · intro w2 hSw
              obtain ⟨_, _, hSw⟩ := hSw
              obtain ⟨z0, z1, z2, z3, z4, z5, z6, z7, z8, z9, z10, z11, z12, z13, z14, z15⟩ := wy_cells hSw
              clear hSw
              go_simp
              all_goals rfl
            try simp only [Act.put, List.getElem_toArray, List.getElem_cons_zero, List.getElem_cons_succ, List.setIfInBounds_toArray, List.set_cons_zero, List.set_cons_succ]
            refine wpAnyH_take (i := 13) (v := ?_) rfl (by kernel_rfl) (by kernel_rfl) (by kernel_rfl) (fun _ _ _ h => h) (Or.inl ⟨by rfl, ?_⟩) hHeld ?_
            rotate_left
            · intro w2 hSw
              clear hSw
              go_simp
              all_goals rfl
            try simp only [Act.put, List.getElem_toArray, List.getElem_cons_zero, List.getElem_cons_succ, List.setIfInBounds_toArray, List.set_cons_zero, List.set_cons_succ]
            refine wpAnyH_take (i := 14) (v := ?_) rfl (by kernel_rfl) (by kernel_rfl) (by kernel_rfl) (fun _ _ _ h => h) (Or.inl ⟨by rfl, ?_⟩) hHeld ?_
            rotate_left
            · intro w2 hSw
              clear hSw
              go_simp
              all_goals rfl
            try simp only [Act.put, List.getElem_toArray, List.getElem_cons_zero, List.getElem_cons_succ, List.setIfInBounds_toArray, List.set_cons_zero, List.set_cons_succ]
            refine wpAnyH_take (i := 15) (v := ?_) rfl (by kernel_rfl) (by kernel_rfl) (by kernel_rfl) (fun _ _ _ h => h) (Or.inl ⟨by rfl, ?_⟩) hHeld ?_
            rotate_left
            · intro w2 hSw
              clear hSw
              go_simp
              all_goals rfl
            try simp only [Act.put, List.getElem_toArray, List.getElem_cons_zero, List.getElem_cons_succ, List.setIfInBounds_toArray, List.set_cons_zero, List.set_cons_succ]
            refine wpAnyH_ready (rs := [8]) (by kernel_rfl) (by simp) ?_
            refine AllReadyH.cons rfl (fun K hK => ?_) AllReadyH.nil
            go_simp
            refine (frameof_c hgU).mono ?_
            rintro e wy ⟨rfl, hwy⟩
            rw [hwy]
            clear hwy wy
            go_simp
            refine hK.out _ _ hHeld (fun hHeld => ?_)
            clear hK K
            try simp only [Act.put, List.setIfInBounds_toArray, List.set_cons_zero, List.set_cons_succ]
            refine wpAnyH_ready (rs := [16]) (by kernel_rfl) (by simp) ?_
            refine AllReadyH.cons rfl (fun K hK => ?_) AllReadyH.nil
            go_simp
            refine (hen.a _ o2d).mono ?_
            rintro e wn ⟨rfl, k3⟩
            have b3 := b2d.kept k3
            go_simp
            refine hK.out _ _ ⟨_, _, b3⟩ (fun hHeld => ?_)
            clear hK K
            try simp only [Act.put, List.setIfInBounds_toArray, List.set_cons_zero, List.set_cons_succ]
            refine wpAnyH_take (i := 17) (v := ?_) rfl (by kernel_rfl) (by kernel_rfl) (by kernel_rfl) (fun _ _ _ h => h) (Or.inl ⟨by rfl, ?_⟩) hHeld ?_
            rotate_left
            · intro w2 hSw
              clear hSw
              go_simp
              all_goals rfl
            try simp only [Act.put, List.getElem_toArray, List.getElem_cons_zero, List.getElem_cons_succ, List.setIfInBounds_toArray, List.set_cons_zero, List.set_cons_succ]
            refine wpAnyH_take (i := 18) (v := ?_) rfl (by kernel_rfl) (by kernel_rfl) (by kernel_rfl) (fun _ _ _ h => h) (Or.inl ⟨by rfl, ?_⟩) hHeld ?_
            rotate_left
            · intro w2 hSw
              clear hSw
              go_simp
              all_goals rfl
            try simp only [Act.put, List.getElem_toArray, List.getElem_cons_zero, List.getElem_cons_succ, List.setIfInBounds_toArray, List.set_cons_zero, List.set_cons_succ]
            refine wpAnyH_take (i := 19) (v := ?_) rfl (by kernel_rfl) (by kernel_rfl) (by kernel_rfl) (fun _ _ _ h => h) (Or.inl ⟨by rfl, ?_⟩) hHeld ?_
            rotate_left
            · intro w2 hSw
              clear hSw
              go_simp
              all_goals rfl
            try simp only [Act.put, List.getElem_toArray, List.getElem_cons_zero, List.getElem_cons_succ, List.setIfInBounds_toArray, List.set_cons_zero, List.set_cons_succ]
            refine wpAnyH_take (i := 20) (v := ?_) rfl (by kernel_rfl) (by kernel_rfl) (by kernel_rfl) (fun _ _ _ h => h) (Or.inl ⟨by rfl, ?_⟩) hHeld ?_
            rotate_left
            · intro w2 hSw
              clear hSw
              go_simp
              all_goals rfl
            try simp only [Act.put, List.getElem_toArray, List.getElem_cons_zero, List.getElem_cons_succ, List.setIfInBounds_toArray, List.set_cons_zero, List.set_cons_succ]
            refine wpAnyH_take (i := 21) (v := ?_) rfl (by kernel_rfl) (by kernel_rfl) (by kernel_rfl) (fun _ _ _ h => h) (Or.inl ⟨by rfl, ?_⟩) hHeld ?_
            rotate_left
            · intro w2 hSw
              clear hSw
              go_simp
              all_goals rfl
            try simp only [Act.put, List.getElem_toArray, List.getElem_cons_zero, List.getElem_cons_succ, List.setIfInBounds_toArray, List.set_cons_zero, List.set_cons_succ]
            refine wpAnyH_done (by kernel_rfl) ?_ _
            have ox3 := o2d.then k3
            clear o2d k3 b2d hHeld hen
            go_wp2_with fail
            rw [Exit.noGoto_ret]
            go_ret
            exact ⟨3, _, _, _, _, rfl, ox3, b3, ⟨by omega, hpU, hgU, fun v => by rw [if_neg (by decide)]; exact rest_s1 h1 sq⟩⟩
          · rw [cond_true] at sq
            cases hi : isE x
            · go_wp2_with fail
              refine hsec.a.mono ?_
              rintro e w2 ⟨rfl, o2, b2⟩
              rw [hw]
              clear hsec
              go_upto_region 11 with fail
              have o2d : Only (fun i => i = b) w w2.drew := (ox.trans o2).drew
              have b2d := b2.kept ((Only.refl (fun _ => False) w2).drew)
              clear b2 o2
              refine wp_region_held_drew (S := fun w2 => ∃ x y, Wy w2 b (.pointer (some ⟨p, 0, none⟩)) a at_ k user x gp bts y) (by kernel_rfl) ⟨_, _, b2d⟩ (fun hHeld => ?_)
              generalize w2.drew = wd at b2d hHeld o2d ⊢
              refine wpAnyH_take (i := 0) (v := ?_) rfl (by kernel_rfl) (by kernel_rfl) (by kernel_rfl) (fun _ _ _ h => h) (Or.inl ⟨by rfl, ?_⟩) hHeld ?_
              rotate_left
              · intro w2 hSw
                clear hSw
                go_simp
                all_goals rfl
              try simp only [Act.put, List.getElem_toArray, List.getElem_cons_zero, List.setIfInBounds_toArray, List.set_cons_zero, List.set_cons_succ]
              refine wpAnyH_take (i := 1) (v := ?_) rfl (by kernel_rfl) (by kernel_rfl) (by kernel_rfl) (fun _ _ _ h => h) (Or.inl ⟨by rfl, ?_⟩) hHeld ?_
              rotate_left
              · intro w2 hSw
                clear hSw
                go_simp
                all_goals rfl
              try simp only [Act.put, List.getElem_toArray, List.getElem_cons_zero, List.getElem_cons_succ, List.setIfInBounds_toArray, List.set_cons_zero, List.set_cons_succ]
              refine wpAnyH_take (i := 2) (v := ?_) rfl (by kernel_rfl) (by kernel_rfl) (by kernel_rfl) (fun _ _ _ h => h) (Or.inl ⟨by rfl, ?_⟩) hHeld ?_
              rotate_left
              · intro w2 hSw
                clear hSw
                go_simp
                all_goals rfl
              try simp only [Act.put, List.getElem_toArray, List.getElem_cons_zero, List.getElem_cons_succ, List.setIfInBounds_toArray, List.set_cons_zero, List.set_cons_succ]
              refine wpAnyH_take (i := 3) (v := ?_) rfl (by kernel_rfl) (by kernel_rfl) (by kernel_rfl) (fun _ _ _ h => h) (Or.inl ⟨by rfl, ?_⟩) hHeld ?_
              rotate_left
              · intro w2 hSw
                obtain ⟨_, _, hSw⟩ := hSw
                obtain ⟨z0, z1, z2, z3, z4, z5, z6, z7, z8, z9, z10, z11, z12, z13, z14, z15⟩ := wy_cells hSw
                clear hSw
                go_simp
                all_goals rfl
              try simp only [Act.put, List.getElem_toArray, List.getElem_cons_zero, List.getElem_cons_succ, List.setIfInBounds_toArray, List.set_cons_zero, List.set_cons_succ]
              refine wpAnyH_take (i := 4) (v := ?_) rfl (by kernel_rfl) (by kernel_rfl) (by kernel_rfl) (fun _ _ _ h => h) (Or.inl ⟨by rfl, ?_⟩) hHeld ?_
              rotate_left
              · intro w2 hSw
                clear hSw
                go_simp
                all_goals rfl
              try simp only [Act.put, List.getElem_toArray, List.getElem_cons_zero, List.getElem_cons_succ, List.setIfInBounds_toArray, List.set_cons_zero, List.set_cons_succ]
              refine wpAnyH_take (i := 5) (v := ?_) rfl (by kernel_rfl) (by kernel_rfl) (by kernel_rfl) (fun _ _ _ h => h) (Or.inl ⟨by rfl, ?_⟩) hHeld ?_
              rotate_left
              · intro w2 hSw
                clear hSw
                go_simp
                all_goals rfl
              try simp only [Act.put, List.getElem_toArray, List.getElem_cons_zero, List.getElem_cons_succ, List.setIfInBounds_toArray, List.set_cons_zero, List.set_cons_succ]
              refine wpAnyH_take (i := 6) (v := ?_) rfl (by kernel_rfl) (by kernel_rfl) (by kernel_rfl) (fun _ _ _ h => h) (Or.inl ⟨by rfl, ?_⟩) hHeld ?_
              rotate_left
              · intro w2 hSw
                clear hSw
                go_simp
                all_goals rfl
              try simp only [Act.put, List.getElem_toArray, List.getElem_cons_zero, List.getElem_cons_succ, List.setIfInBounds_toArray, List.set_cons_zero, List.set_cons_succ]
              refine wpAnyH_take (i := 7) (v := ?_) rfl (by kernel_rfl) (by kernel_rfl) (by kernel_rfl) (fun _ _ _ h => h) (Or.inl ⟨by rfl, ?_⟩) hHeld ?_
              rotate_left
              · intro w2 hSw
                obtain ⟨_, _, hSw⟩ := hSw
                obtain ⟨z0, z1, z2, z3, z4, z5, z6, z7, z8, z9, z10, z11, z12, z13, z14, z15⟩ := wy_cells hSw
                clear hSw
                go_simp
                all_goals rfl
              try simp only [Act.put, List.getElem_toArray, List.getElem_cons_zero, List.getElem_cons_succ, List.setIfInBounds_toArray, List.set_cons_zero, List.set_cons_succ]
              refine wpAnyH_take (i := 9) (v := ?_) rfl (by kernel_rfl) (by kernel_rfl) (by kernel_rfl) (fun _ _ _ h => h) (Or.inl ⟨by rfl, ?_⟩) hHeld ?_
              rotate_left
              · intro w2 hSw
                clear hSw
                go_simp
                all_goals rfl
              try simp only [Act.put, List.getElem_toArray, List.getElem_cons_zero, List.getElem_cons_succ, List.setIfInBounds_toArray, List.set_cons_zero, List.set_cons_succ]
              refine wpAnyH_take (i := 10) (v := ?_) rfl (by kernel_rfl) (by kernel_rfl) (by kernel_rfl) (fun _ _ _ h => h) (Or.inl ⟨by rfl, ?_⟩) hHeld ?_
              rotate_left
              · intro w2 hSw
                clear hSw
                go_simp
                all_goals rfl
              try simp only [Act.put, List.getElem_toArray, List.getElem_cons_zero, List.getElem_cons_succ, List.setIfInBounds_toArray, List.set_cons_zero, List.set_cons_succ]
              refine wpAnyH_take (i := 11) (v := ?_) rfl (by kernel_rfl) (by kernel_rfl) (by kernel_rfl) (fun _ _ _ h => h) (Or.inl ⟨by rfl, ?_⟩) hHeld ?_
              rotate_left
              · intro w2 hSw
                clear hSw
                go_simp
                all_goals rfl
              try simp only [Act.put, List.getElem_toArray, List.getElem_cons_zero, List.getElem_cons_succ, List.setIfInBounds_toArray, List.set_cons_zero, List.set_cons_succ]
              refine wpAnyH_take (i := 12) (v := ?_) rfl (by kernel_rfl) (by kernel_rfl) (by kernel_rfl) (fun _ _ _ h => h) (Or.inl ⟨by rfl, ?_⟩) hHeld ?_
              rotate_left
              · intro w2 hSw
                obtain ⟨_, _, hSw⟩ := hSw
                obtain ⟨z0, z1, z2, z3, z4, z5, z6, z7, z8, z9, z10, z11, z12, z13, z14, z15⟩ := wy_cells hSw
                clear hSw
                go_simp
                all_goals rfl
              try simp only [Act.put, List.getElem_toArray, List.getElem_cons_zero, List.getElem_cons_succ, List.setIfInBounds_toArray, List.set_cons_zero, List.set_cons_succ]
              refine wpAnyH_take (i := 13) (v := ?_) rfl (by kernel_rfl) (by kernel_rfl) (by kernel_rfl) (fun _ _ _ h => h) (Or.inl ⟨by rfl, ?_⟩) hHeld ?_
              rotate_left
              · intro w2 hSw
                clear hSw
                go_simp
                all_goals rfl
              try simp only [Act.put, List.getElem_toArray, List.getElem_cons_zero, List.getElem_cons_succ, List.setIfInBounds_toArray, List.set_cons_zero, List.set_cons_succ]
              refine wpAnyH_take (i := 14) (v := ?_) rfl (by kernel_rfl) (by kernel_rfl) (by kernel_rfl) (fun _ _ _ h => h) (Or.inl ⟨by rfl, ?_⟩) hHeld ?_
              rotate_left
              · intro w2 hSw
                clear hSw
                go_simp
                all_goals rfl
              try simp only [Act.put, List.getElem_toArray, List.getElem_cons_zero, List.getElem_cons_succ, List.setIfInBounds_toArray, List.set_cons_zero, List.set_cons_succ]
              refine wpAnyH_take (i := 15) (v := ?_) rfl (by kernel_rfl) (by kernel_rfl) (by kernel_rfl) (fun _ _ _ h => h) (Or.inl ⟨by rfl, ?_⟩) hHeld ?_
              rotate_left
              · intro w2 hSw
                clear hSw
                go_simp
                all_goals rfl
              try simp only [Act.put, List.getElem_toArray, List.getElem_cons_zero, List.getElem_cons_succ, List.setIfInBounds_toArray, List.set_cons_zero, List.set_cons_succ]
              refine wpAnyH_ready (rs := [8]) (by kernel_rfl) (by simp) ?_
              refine AllReadyH.cons rfl (fun K hK => ?_) AllReadyH.nil
              go_simp
              refine (frameof_c hgU).mono ?_
              rintro e wy ⟨rfl, hwy⟩
              rw [hwy]
              clear hwy wy
              go_simp
              refine hK.out _ _ hHeld (fun hHeld => ?_)
              clear hK K
              try simp only [Act.put, List.setIfInBounds_toArray, List.set_cons_zero, List.set_cons_succ]
              refine wpAnyH_ready (rs := [16]) (by kernel_rfl) (by simp) ?_
              refine AllReadyH.cons rfl (fun K hK => ?_) AllReadyH.nil
              go_simp
              refine (hen.a _ o2d).mono ?_
              rintro e wn ⟨rfl, k3⟩
              have b3 := b2d.kept k3
              go_simp
              refine hK.out _ _ ⟨_, _, b3⟩ (fun hHeld => ?_)
              clear hK K
              try simp only [Act.put, List.setIfInBounds_toArray, List.set_cons_zero, List.set_cons_succ]
              refine wpAnyH_take (i := 17) (v := ?_) rfl (by kernel_rfl) (by kernel_rfl) (by kernel_rfl) (fun _ _ _ h => h) (Or.inl ⟨by rfl, ?_⟩) hHeld ?_
              rotate_left
              · intro w2 hSw
                clear hSw
                go_simp
                all_goals rfl
              try simp only [Act.put, List.getElem_toArray, List.getElem_cons_zero, List.getElem_cons_succ, List.setIfInBounds_toArray, List.set_cons_zero, List.set_cons_succ]
              refine wpAnyH_take (i := 18) (v := ?_) rfl (by kernel_rfl) (by kernel_rfl) (by kernel_rfl) (fun _ _ _ h => h) (Or.inl ⟨by rfl, ?_⟩) hHeld ?_
              rotate_left
              · intro w2 hSw
                clear hSw
                go_simp
                all_goals rfl
              try simp only [Act.put, List.getElem_toArray, List.getElem_cons_zero, List.getElem_cons_succ, List.setIfInBounds_toArray, List.set_cons_zero, List.set_cons_succ]
              refine wpAnyH_take (i := 19) (v := ?_) rfl (by kernel_rfl) (by kernel_rfl) (by kernel_rfl) (fun _ _ _ h => h) (Or.inl ⟨by rfl, ?_⟩) hHeld ?_
              rotate_left
              · intro w2 hSw
                clear hSw
                go_simp
                all_goals rfl
              try simp only [Act.put, List.getElem_toArray, List.getElem_cons_zero, List.getElem_cons_succ, List.setIfInBounds_toArray, List.set_cons_zero, List.set_cons_succ]
              refine wpAnyH_take (i := 20) (v := ?_) rfl (by kernel_rfl) (by kernel_rfl) (by kernel_rfl) (fun _ _ _ h => h) (Or.inl ⟨by rfl, ?_⟩) hHeld ?_
              rotate_left
              · intro w2 hSw
                clear hSw
                go_simp
                all_goals rfl
              try simp only [Act.put, List.getElem_toArray, List.getElem_cons_zero, List.getElem_cons_succ, List.setIfInBounds_toArray, List.set_cons_zero, List.set_cons_succ]
              refine wpAnyH_take (i := 21) (v := ?_) rfl (by kernel_rfl) (by kernel_rfl) (by kernel_rfl) (fun _ _ _ h => h) (Or.inl ⟨by rfl, ?_⟩) hHeld ?_
              rotate_left
              · intro w2 hSw
                clear hSw
                go_simp
                all_goals rfl
              try simp only [Act.put, List.getElem_toArray, List.getElem_cons_zero, List.getElem_cons_succ, List.setIfInBounds_toArray, List.set_cons_zero, List.set_cons_succ]
              refine wpAnyH_done (by kernel_rfl) ?_ _
              have ox3 := o2d.then k3
              clear o2d k3 b2d hHeld hen
              go_wp2_with fail
              refine (pis_c x heU).mono ?_
              rintro r w4 ⟨rfl, k4⟩
              rw [hi]
              have b4 := b3.kept k4
              have ox4 := ox3.then k4
              clear b3 ox3 k4
              go_wp2_with fail
              rw [Exit.noGoto_ret]
              go_ret
              exact ⟨1, _, _, _, _, rfl, ox4, b4, ⟨by omega, hpU, hgU, fun v => by rw [if_neg (by decide)]; exact rest_n1 h1 sq (.inl hi)⟩⟩
            · cases hl : leafE x
              · go_wp2_with fail
                refine hsec.a.mono ?_
                rintro e w2 ⟨rfl, o2, b2⟩
                rw [hw]
                clear hsec
                go_upto_region 11 with fail
                have o2d : Only (fun i => i = b) w w2.drew := (ox.trans o2).drew
                have b2d := b2.kept ((Only.refl (fun _ => False) w2).drew)
                clear b2 o2
                refine wp_region_held_drew (S := fun w2 => ∃ x y, Wy w2 b (.pointer (some ⟨p, 0, none⟩)) a at_ k user x gp bts y) (by kernel_rfl) ⟨_, _, b2d⟩ (fun hHeld => ?_)
                generalize w2.drew = wd at b2d hHeld o2d ⊢
                refine wpAnyH_take (i := 0) (v := ?_) rfl (by kernel_rfl) (by kernel_rfl) (by kernel_rfl) (fun _ _ _ h => h) (Or.inl ⟨by rfl, ?_⟩) hHeld ?_
                rotate_left
                · intro w2 hSw
                  clear hSw
                  go_simp
                  all_goals rfl
                try simp only [Act.put, List.getElem_toArray, List.getElem_cons_zero, List.setIfInBounds_toArray, List.set_cons_zero, List.set_cons_succ]
                refine wpAnyH_take (i := 1) (v := ?_) rfl (by kernel_rfl) (by kernel_rfl) (by kernel_rfl) (fun _ _ _ h => h) (Or.inl ⟨by rfl, ?_⟩) hHeld ?_
                rotate_left
                · intro w2 hSw
                  clear hSw
                  go_simp
                  all_goals rfl
                try simp only [Act.put, List.getElem_toArray, List.getElem_cons_zero, List.getElem_cons_succ, List.setIfInBounds_toArray, List.set_cons_zero, List.set_cons_succ]
                refine wpAnyH_take (i := 2) (v := ?_) rfl (by kernel_rfl) (by kernel_rfl) (by kernel_rfl) (fun _ _ _ h => h) (Or.inl ⟨by rfl, ?_⟩) hHeld ?_
                rotate_left
                · intro w2 hSw
                  clear hSw
                  go_simp
                  all_goals rfl
                try simp only [Act.put, List.getElem_toArray, List.getElem_cons_zero, List.getElem_cons_succ, List.setIfInBounds_toArray, List.set_cons_zero, List.set_cons_succ]
                refine wpAnyH_take (i := 3) (v := ?_) rfl (by kernel_rfl) (by kernel_rfl) (by kernel_rfl) (fun _ _ _ h => h) (Or.inl ⟨by rfl, ?_⟩) hHeld ?_
                rotate_left
                · intro w2 hSw
                  obtain ⟨_, _, hSw⟩ := hSw
                  obtain ⟨z0, z1, z2, z3, z4, z5, z6, z7, z8, z9, z10, z11, z12, z13, z14, z15⟩ := wy_cells hSw
                  clear hSw
                  go_simp
                  all_goals rfl
                try simp only [Act.put, List.getElem_toArray, List.getElem_cons_zero, List.getElem_cons_succ, List.setIfInBounds_toArray, List.set_cons_zero, List.set_cons_succ]
                refine wpAnyH_take (i := 4) (v := ?_) rfl (by kernel_rfl) (by kernel_rfl) (by kernel_rfl) (fun _ _ _ h => h) (Or.inl ⟨by rfl, ?_⟩) hHeld ?_
                rotate_left
                · intro w2 hSw
                  clear hSw
                  go_simp
                  all_goals rfl
                try simp only [Act.put, List.getElem_toArray, List.getElem_cons_zero, List.getElem_cons_succ, List.setIfInBounds_toArray, List.set_cons_zero, List.set_cons_succ]
                refine wpAnyH_take (i := 5) (v := ?_) rfl (by kernel_rfl) (by kernel_rfl) (by kernel_rfl) (fun _ _ _ h => h) (Or.inl ⟨by rfl, ?_⟩) hHeld ?_
                rotate_left
                · intro w2 hSw
                  clear hSw
                  go_simp
                  all_goals rfl
                try simp only [Act.put, List.getElem_toArray, List.getElem_cons_zero, List.getElem_cons_succ, List.setIfInBounds_toArray, List.set_cons_zero, List.set_cons_succ]
                refine wpAnyH_take (i := 6) (v := ?_) rfl (by kernel_rfl) (by kernel_rfl) (by kernel_rfl) (fun _ _ _ h => h) (Or.inl ⟨by rfl, ?_⟩) hHeld ?_
                rotate_left
                · intro w2 hSw
                  clear hSw
                  go_simp
                  all_goals rfl
                try simp only [Act.put, List.getElem_toArray, List.getElem_cons_zero, List.getElem_cons_succ, List.setIfInBounds_toArray, List.set_cons_zero, List.set_cons_succ]
                refine wpAnyH_take (i := 7) (v := ?_) rfl (by kernel_rfl) (by kernel_rfl) (by kernel_rfl) (fun _ _ _ h => h) (Or.inl ⟨by rfl, ?_⟩) hHeld ?_
                rotate_left
                · intro w2 hSw
                  obtain ⟨_, _, hSw⟩ := hSw
                  obtain ⟨z0, z1, z2, z3, z4, z5, z6, z7, z8, z9, z10, z11, z12, z13, z14, z15⟩ := wy_cells hSw
                  clear hSw
                  go_simp
                  all_goals rfl
                try simp only [Act.put, List.getElem_toArray, List.getElem_cons_zero, List.getElem_cons_succ, List.setIfInBounds_toArray, List.set_cons_zero, List.set_cons_succ]
                refine wpAnyH_take (i := 9) (v := ?_) rfl (by kernel_rfl) (by kernel_rfl) (by kernel_rfl) (fun _ _ _ h => h) (Or.inl ⟨by rfl, ?_⟩) hHeld ?_
                rotate_left
                · intro w2 hSw
                  clear hSw
                  go_simp
                  all_goals rfl
                try simp only [Act.put, List.getElem_toArray, List.getElem_cons_zero, List.getElem_cons_succ, List.setIfInBounds_toArray, List.set_cons_zero, List.set_cons_succ]
                refine wpAnyH_take (i := 10) (v := ?_) rfl (by kernel_rfl) (by kernel_rfl) (by kernel_rfl) (fun _ _ _ h => h) (Or.inl ⟨by rfl, ?_⟩) hHeld ?_
                rotate_left
                · intro w2 hSw
                  clear hSw
                  go_simp
                  all_goals rfl
                try simp only [Act.put, List.getElem_toArray, List.getElem_cons_zero, List.getElem_cons_succ, List.setIfInBounds_toArray, List.set_cons_zero, List.set_cons_succ]
                refine wpAnyH_take (i := 11) (v := ?_) rfl (by kernel_rfl) (by kernel_rfl) (by kernel_rfl) (fun _ _ _ h => h) (Or.inl ⟨by rfl, ?_⟩) hHeld ?_
                rotate_left
                · intro w2 hSw
                  clear hSw
                  go_simp
                  all_goals rfl
                try simp only [Act.put, List.getElem_toArray, List.getElem_cons_zero, List.getElem_cons_succ, List.setIfInBounds_toArray, List.set_cons_zero, List.set_cons_succ]
                refine wpAnyH_take (i := 12) (v := ?_) rfl (by kernel_rfl) (by kernel_rfl) (by kernel_rfl) (fun _ _ _ h => h) (Or.inl ⟨by rfl, ?_⟩) hHeld ?_
                rotate_left
                · intro w2 hSw
                  obtain ⟨_, _, hSw⟩ := hSw
                  obtain ⟨z0, z1, z2, z3, z4, z5, z6, z7, z8, z9, z10, z11, z12, z13, z14, z15⟩ := wy_cells hSw
                  clear hSw
                  go_simp
                  all_goals rfl
                try simp only [Act.put, List.getElem_toArray, List.getElem_cons_zero, List.getElem_cons_succ, List.setIfInBounds_toArray, List.set_cons_zero, List.set_cons_succ]
                refine wpAnyH_take (i := 13) (v := ?_) rfl (by kernel_rfl) (by kernel_rfl) (by kernel_rfl) (fun _ _ _ h => h) (Or.inl ⟨by rfl, ?_⟩) hHeld ?_
                rotate_left
                · intro w2 hSw
                  clear hSw
                  go_simp
                  all_goals rfl
                try simp only [Act.put, List.getElem_toArray, List.getElem_cons_zero, List.getElem_cons_succ, List.setIfInBounds_toArray, List.set_cons_zero, List.set_cons_succ]
                refine wpAnyH_take (i := 14) (v := ?_) rfl (by kernel_rfl) (by kernel_rfl) (by kernel_rfl) (fun _ _ _ h => h) (Or.inl ⟨by rfl, ?_⟩) hHeld ?_
                rotate_left
                · intro w2 hSw
                  clear hSw
                  go_simp
                  all_goals rfl
                try simp only [Act.put, List.getElem_toArray, List.getElem_cons_zero, List.getElem_cons_succ, List.setIfInBounds_toArray, List.set_cons_zero, List.set_cons_succ]
                refine wpAnyH_take (i := 15) (v := ?_) rfl (by kernel_rfl) (by kernel_rfl) (by kernel_rfl) (fun _ _ _ h => h) (Or.inl ⟨by rfl, ?_⟩) hHeld ?_
                rotate_left
                · intro w2 hSw
                  clear hSw
                  go_simp
                  all_goals rfl
                try simp only [Act.put, List.getElem_toArray, List.getElem_cons_zero, List.getElem_cons_succ, List.setIfInBounds_toArray, List.set_cons_zero, List.set_cons_succ]
                refine wpAnyH_ready (rs := [8]) (by kernel_rfl) (by simp) ?_
                refine AllReadyH.cons rfl (fun K hK => ?_) AllReadyH.nil
                go_simp
                refine (frameof_c hgU).mono ?_
                rintro e wy ⟨rfl, hwy⟩
                rw [hwy]
                clear hwy wy
                go_simp
                refine hK.out _ _ hHeld (fun hHeld => ?_)
                clear hK K
                try simp only [Act.put, List.setIfInBounds_toArray, List.set_cons_zero, List.set_cons_succ]
                refine wpAnyH_ready (rs := [16]) (by kernel_rfl) (by simp) ?_
                refine AllReadyH.cons rfl (fun K hK => ?_) AllReadyH.nil
                go_simp
                refine (hen.a _ o2d).mono ?_
                rintro e wn ⟨rfl, k3⟩
                have b3 := b2d.kept k3
                go_simp
                refine hK.out _ _ ⟨_, _, b3⟩ (fun hHeld => ?_)
                clear hK K
                try simp only [Act.put, List.setIfInBounds_toArray, List.set_cons_zero, List.set_cons_succ]
                refine wpAnyH_take (i := 17) (v := ?_) rfl (by kernel_rfl) (by kernel_rfl) (by kernel_rfl) (fun _ _ _ h => h) (Or.inl ⟨by rfl, ?_⟩) hHeld ?_
                rotate_left
                · intro w2 hSw
                  clear hSw
                  go_simp
                  all_goals rfl
                try simp only [Act.put, List.getElem_toArray, List.getElem_cons_zero, List.getElem_cons_succ, List.setIfInBounds_toArray, List.set_cons_zero, List.set_cons_succ]
                refine wpAnyH_take (i := 18) (v := ?_) rfl (by kernel_rfl) (by kernel_rfl) (by kernel_rfl) (fun _ _ _ h => h) (Or.inl ⟨by rfl, ?_⟩) hHeld ?_
                rotate_left
                · intro w2 hSw
                  clear hSw
                  go_simp
                  all_goals rfl
                try simp only [Act.put, List.getElem_toArray, List.getElem_cons_zero, List.getElem_cons_succ, List.setIfInBounds_toArray, List.set_cons_zero, List.set_cons_succ]
                refine wpAnyH_take (i := 19) (v := ?_) rfl (by kernel_rfl) (by kernel_rfl) (by kernel_rfl) (fun _ _ _ h => h) (Or.inl ⟨by rfl, ?_⟩) hHeld ?_
                rotate_left
                · intro w2 hSw
                  clear hSw
                  go_simp
                  all_goals rfl
                try simp only [Act.put, List.getElem_toArray, List.getElem_cons_zero, List.getElem_cons_succ, List.setIfInBounds_toArray, List.set_cons_zero, List.set_cons_succ]
                refine wpAnyH_take (i := 20) (v := ?_) rfl (by kernel_rfl) (by kernel_rfl) (by kernel_rfl) (fun _ _ _ h => h) (Or.inl ⟨by rfl, ?_⟩) hHeld ?_
                rotate_left
                · intro w2 hSw
                  clear hSw
                  go_simp
                  all_goals rfl
                try simp only [Act.put, List.getElem_toArray, List.getElem_cons_zero, List.getElem_cons_succ, List.setIfInBounds_toArray, List.set_cons_zero, List.set_cons_succ]
                refine wpAnyH_take (i := 21) (v := ?_) rfl (by kernel_rfl) (by kernel_rfl) (by kernel_rfl) (fun _ _ _ h => h) (Or.inl ⟨by rfl, ?_⟩) hHeld ?_
                rotate_left
                · intro w2 hSw
                  clear hSw
                  go_simp
                  all_goals rfl
                try simp only [Act.put, List.getElem_toArray, List.getElem_cons_zero, List.getElem_cons_succ, List.setIfInBounds_toArray, List.set_cons_zero, List.set_cons_succ]
                refine wpAnyH_done (by kernel_rfl) ?_ _
                have ox3 := o2d.then k3
                clear o2d k3 b2d hHeld hen
                go_wp2_with fail
                refine (pis_c x heU).mono ?_
                rintro r w4 ⟨rfl, k4⟩
                rw [hi]
                have b4 := b3.kept k4
                have ox4 := ox3.then k4
                clear b3 ox3 k4
                go_wp2_with fail
                refine (pleaf_c x heU).mono ?_
                rintro r w5 ⟨rfl, k5⟩
                rw [hl]
                have b5 := b4.kept k5
                have ox5 := ox4.then k5
                clear b4 ox4 k5
                go_wp2_with fail
                refine (pframe_of x).mono ?_
                rintro r wy ⟨rfl, hwy⟩
                rw [hwy]
                clear hwy wy
                go_wp2_with fail
                refine (toentry_1 b5 h0 h1' _ (fr_bd x).1 (fr_bd x).2).mono ?_
                rintro r w6 ⟨rfl, o6, b6⟩
                go_wp2_with fail
                exact ⟨⟨1, _, _, _, _, rfl, .inr (.inl ⟨rfl, h1, x, sq, hi, hl, rfl⟩), b6, ox5.trans o6⟩, by simp [intOf]⟩
              · by_cases hz : frI x % 16 = 0
                · cases hy : mayE (x % 256) k user a.sum a.mxr
                  · go_wp2_with fail
                    refine hsec.a.mono ?_
                    rintro e w2 ⟨rfl, o2, b2⟩
                    rw [hw]
                    clear hsec
                    go_upto_region 11 with fail
                    have o2d : Only (fun i => i = b) w w2.drew := (ox.trans o2).drew
                    have b2d := b2.kept ((Only.refl (fun _ => False) w2).drew)
                    clear b2 o2
                    refine wp_region_held_drew (S := fun w2 => ∃ x y, Wy w2 b (.pointer (some ⟨p, 0, none⟩)) a at_ k user x gp bts y) (by kernel_rfl) ⟨_, _, b2d⟩ (fun hHeld => ?_)
                    generalize w2.drew = wd at b2d hHeld o2d ⊢
                    refine wpAnyH_take (i := 0) (v := ?_) rfl (by kernel_rfl) (by kernel_rfl) (by kernel_rfl) (fun _ _ _ h => h) (Or.inl ⟨by rfl, ?_⟩) hHeld ?_
                    rotate_left
                    · intro w2 hSw
                      clear hSw
                      go_simp
                      all_goals rfl
                    try simp only [Act.put, List.getElem_toArray, List.getElem_cons_zero, List.setIfInBounds_toArray, List.set_cons_zero, List.set_cons_succ]
                    refine wpAnyH_take (i := 1) (v := ?_) rfl (by kernel_rfl) (by kernel_rfl) (by kernel_rfl) (fun _ _ _ h => h) (Or.inl ⟨by rfl, ?_⟩) hHeld ?_
                    rotate_left
                    · intro w2 hSw
                      clear hSw
                      go_simp
                      all_goals rfl
                    try simp only [Act.put, List.getElem_toArray, List.getElem_cons_zero, List.getElem_cons_succ, List.setIfInBounds_toArray, List.set_cons_zero, List.set_cons_succ]
                    refine wpAnyH_take (i := 2) (v := ?_) rfl (by kernel_rfl) (by kernel_rfl) (by kernel_rfl) (fun _ _ _ h => h) (Or.inl ⟨by rfl, ?_⟩) hHeld ?_
                    rotate_left
                    · intro w2 hSw
                      clear hSw
                      go_simp
                      all_goals rfl
                    try simp only [Act.put, List.getElem_toArray, List.getElem_cons_zero, List.getElem_cons_succ, List.setIfInBounds_toArray, List.set_cons_zero, List.set_cons_succ]
                    refine wpAnyH_take (i := 3) (v := ?_) rfl (by kernel_rfl) (by kernel_rfl) (by kernel_rfl) (fun _ _ _ h => h) (Or.inl ⟨by rfl, ?_⟩) hHeld ?_
                    rotate_left
                    · intro w2 hSw
                      obtain ⟨_, _, hSw⟩ := hSw
                      obtain ⟨z0, z1, z2, z3, z4, z5, z6, z7, z8, z9, z10, z11, z12, z13, z14, z15⟩ := wy_cells hSw
                      clear hSw
                      go_simp
                      all_goals rfl
                    try simp only [Act.put, List.getElem_toArray, List.getElem_cons_zero, List.getElem_cons_succ, List.setIfInBounds_toArray, List.set_cons_zero, List.set_cons_succ]
                    refine wpAnyH_take (i := 4) (v := ?_) rfl (by kernel_rfl) (by kernel_rfl) (by kernel_rfl) (fun _ _ _ h => h) (Or.inl ⟨by rfl, ?_⟩) hHeld ?_
                    rotate_left
                    · intro w2 hSw
                      clear hSw
                      go_simp
                      all_goals rfl
                    try simp only [Act.put, List.getElem_toArray, List.getElem_cons_zero, List.getElem_cons_succ, List.setIfInBounds_toArray, List.set_cons_zero, List.set_cons_succ]
                    refine wpAnyH_take (i := 5) (v := ?_) rfl (by kernel_rfl) (by kernel_rfl) (by kernel_rfl) (fun _ _ _ h => h) (Or.inl ⟨by rfl, ?_⟩) hHeld ?_
                    rotate_left
                    · intro w2 hSw
                      clear hSw
                      go_simp
                      all_goals rfl
                    try simp only [Act.put, List.getElem_toArray, List.getElem_cons_zero, List.getElem_cons_succ, List.setIfInBounds_toArray, List.set_cons_zero, List.set_cons_succ]
                    refine wpAnyH_take (i := 6) (v := ?_) rfl (by kernel_rfl) (by kernel_rfl) (by kernel_rfl) (fun _ _ _ h => h) (Or.inl ⟨by rfl, ?_⟩) hHeld ?_
                    rotate_left
                    · intro w2 hSw
                      clear hSw
                      go_simp
                      all_goals rfl
                    try simp only [Act.put, List.getElem_toArray, List.getElem_cons_zero, List.getElem_cons_succ, List.setIfInBounds_toArray, List.set_cons_zero, List.set_cons_succ]
                    refine wpAnyH_take (i := 7) (v := ?_) rfl (by kernel_rfl) (by kernel_rfl) (by kernel_rfl) (fun _ _ _ h => h) (Or.inl ⟨by rfl, ?_⟩) hHeld ?_
                    rotate_left
                    · intro w2 hSw
                      obtain ⟨_, _, hSw⟩ := hSw
                      obtain ⟨z0, z1, z2, z3, z4, z5, z6, z7, z8, z9, z10, z11, z12, z13, z14, z15⟩ := wy_cells hSw
                      clear hSw
                      go_simp
                      all_goals rfl
                    try simp only [Act.put, List.getElem_toArray, List.getElem_cons_zero, List.getElem_cons_succ, List.setIfInBounds_toArray, List.set_cons_zero, List.set_cons_succ]
                    refine wpAnyH_take (i := 9) (v := ?_) rfl (by kernel_rfl) (by kernel_rfl) (by kernel_rfl) (fun _ _ _ h => h) (Or.inl ⟨by rfl, ?_⟩) hHeld ?_
                    rotate_left
                    · intro w2 hSw
                      clear hSw
                      go_simp
                      all_goals rfl
                    try simp only [Act.put, List.getElem_toArray, List.getElem_cons_zero, List.getElem_cons_succ, List.setIfInBounds_toArray, List.set_cons_zero, List.set_cons_succ]
                    refine wpAnyH_take (i := 10) (v := ?_) rfl (by kernel_rfl) (by kernel_rfl) (by kernel_rfl) (fun _ _ _ h => h) (Or.inl ⟨by rfl, ?_⟩) hHeld ?_
                    rotate_left
                    · intro w2 hSw
                      clear hSw
                      go_simp
                      all_goals rfl
                    try simp only [Act.put, List.getElem_toArray, List.getElem_cons_zero, List.getElem_cons_succ, List.setIfInBounds_toArray, List.set_cons_zero, List.set_cons_succ]
                    refine wpAnyH_take (i := 11) (v := ?_) rfl (by kernel_rfl) (by kernel_rfl) (by kernel_rfl) (fun _ _ _ h => h) (Or.inl ⟨by rfl, ?_⟩) hHeld ?_
                    rotate_left
                    · intro w2 hSw
                      clear hSw
                      go_simp
                      all_goals rfl
                    try simp only [Act.put, List.getElem_toArray, List.getElem_cons_zero, List.getElem_cons_succ, List.setIfInBounds_toArray, List.set_cons_zero, List.set_cons_succ]
                    refine wpAnyH_take (i := 12) (v := ?_) rfl (by kernel_rfl) (by kernel_rfl) (by kernel_rfl) (fun _ _ _ h => h) (Or.inl ⟨by rfl, ?_⟩) hHeld ?_
                    rotate_left
                    · intro w2 hSw
                      obtain ⟨_, _, hSw⟩ := hSw
                      obtain ⟨z0, z1, z2, z3, z4, z5, z6, z7, z8, z9, z10, z11, z12, z13, z14, z15⟩ := wy_cells hSw
                      clear hSw
                      go_simp
                      all_goals rfl
                    try simp only [Act.put, List.getElem_toArray, List.getElem_cons_zero, List.getElem_cons_succ, List.setIfInBounds_toArray, List.set_cons_zero, List.set_cons_succ]
                    refine wpAnyH_take (i := 13) (v := ?_) rfl (by kernel_rfl) (by kernel_rfl) (by kernel_rfl) (fun _ _ _ h => h) (Or.inl ⟨by rfl, ?_⟩) hHeld ?_
                    rotate_left
                    · intro w2 hSw
                      clear hSw
                      go_simp
                      all_goals rfl
                    try simp only [Act.put, List.getElem_toArray, List.getElem_cons_zero, List.getElem_cons_succ, List.setIfInBounds_toArray, List.set_cons_zero, List.set_cons_succ]
                    refine wpAnyH_take (i := 14) (v := ?_) rfl (by kernel_rfl) (by kernel_rfl) (by kernel_rfl) (fun _ _ _ h => h) (Or.inl ⟨by rfl, ?_⟩) hHeld ?_
                    rotate_left
                    · intro w2 hSw
                      clear hSw
                      go_simp
                      all_goals rfl
                    try simp only [Act.put, List.getElem_toArray, List.getElem_cons_zero, List.getElem_cons_succ, List.setIfInBounds_toArray, List.set_cons_zero, List.set_cons_succ]
                    refine wpAnyH_take (i := 15) (v := ?_) rfl (by kernel_rfl) (by kernel_rfl) (by kernel_rfl) (fun _ _ _ h => h) (Or.inl ⟨by rfl, ?_⟩) hHeld ?_
                    rotate_left
                    · intro w2 hSw
                      clear hSw
                      go_simp
                      all_goals rfl
                    try simp only [Act.put, List.getElem_toArray, List.getElem_cons_zero, List.getElem_cons_succ, List.setIfInBounds_toArray, List.set_cons_zero, List.set_cons_succ]
                    refine wpAnyH_ready (rs := [8]) (by kernel_rfl) (by simp) ?_
                    refine AllReadyH.cons rfl (fun K hK => ?_) AllReadyH.nil
                    go_simp
                    refine (frameof_c hgU).mono ?_
                    rintro e wy ⟨rfl, hwy⟩
                    rw [hwy]
                    clear hwy wy
                    go_simp
                    refine hK.out _ _ hHeld (fun hHeld => ?_)
                    clear hK K
                    try simp only [Act.put, List.setIfInBounds_toArray, List.set_cons_zero, List.set_cons_succ]
                    refine wpAnyH_ready (rs := [16]) (by kernel_rfl) (by simp) ?_
                    refine AllReadyH.cons rfl (fun K hK => ?_) AllReadyH.nil
                    go_simp
                    refine (hen.a _ o2d).mono ?_
                    rintro e wn ⟨rfl, k3⟩
                    have b3 := b2d.kept k3
                    go_simp
                    refine hK.out _ _ ⟨_, _, b3⟩ (fun hHeld => ?_)
                    clear hK K
                    try simp only [Act.put, List.setIfInBounds_toArray, List.set_cons_zero, List.set_cons_succ]
                    refine wpAnyH_take (i := 17) (v := ?_) rfl (by kernel_rfl) (by kernel_rfl) (by kernel_rfl) (fun _ _ _ h => h) (Or.inl ⟨by rfl, ?_⟩) hHeld ?_
                    rotate_left
                    · intro w2 hSw
                      clear hSw
                      go_simp
                      all_goals rfl
                    try simp only [Act.put, List.getElem_toArray, List.getElem_cons_zero, List.getElem_cons_succ, List.setIfInBounds_toArray, List.set_cons_zero, List.set_cons_succ]
                    refine wpAnyH_take (i := 18) (v := ?_) rfl (by kernel_rfl) (by kernel_rfl) (by kernel_rfl) (fun _ _ _ h => h) (Or.inl ⟨by rfl, ?_⟩) hHeld ?_
                    rotate_left
                    · intro w2 hSw
                      clear hSw
                      go_simp
                      all_goals rfl
                    try simp only [Act.put, List.getElem_toArray, List.getElem_cons_zero, List.getElem_cons_succ, List.setIfInBounds_toArray, List.set_cons_zero, List.set_cons_succ]
                    refine wpAnyH_take (i := 19) (v := ?_) rfl (by kernel_rfl) (by kernel_rfl) (by kernel_rfl) (fun _ _ _ h => h) (Or.inl ⟨by rfl, ?_⟩) hHeld ?_
                    rotate_left
                    · intro w2 hSw
                      clear hSw
                      go_simp
                      all_goals rfl
                    try simp only [Act.put, List.getElem_toArray, List.getElem_cons_zero, List.getElem_cons_succ, List.setIfInBounds_toArray, List.set_cons_zero, List.set_cons_succ]
                    refine wpAnyH_take (i := 20) (v := ?_) rfl (by kernel_rfl) (by kernel_rfl) (by kernel_rfl) (fun _ _ _ h => h) (Or.inl ⟨by rfl, ?_⟩) hHeld ?_
                    rotate_left
                    · intro w2 hSw
                      clear hSw
                      go_simp
                      all_goals rfl
                    try simp only [Act.put, List.getElem_toArray, List.getElem_cons_zero, List.getElem_cons_succ, List.setIfInBounds_toArray, List.set_cons_zero, List.set_cons_succ]
                    refine wpAnyH_take (i := 21) (v := ?_) rfl (by kernel_rfl) (by kernel_rfl) (by kernel_rfl) (fun _ _ _ h => h) (Or.inl ⟨by rfl, ?_⟩) hHeld ?_
                    rotate_left
                    · intro w2 hSw
                      clear hSw
                      go_simp
                      all_goals rfl
                    try simp only [Act.put, List.getElem_toArray, List.getElem_cons_zero, List.getElem_cons_succ, List.setIfInBounds_toArray, List.set_cons_zero, List.set_cons_succ]
                    refine wpAnyH_done (by kernel_rfl) ?_ _
                    have ox3 := o2d.then k3
                    clear o2d k3 b2d hHeld hen
                    go_wp2_with fail
                    refine (pis_c x heU).mono ?_
                    rintro r w4 ⟨rfl, k4⟩
                    rw [hi]
                    have b4 := b3.kept k4
                    have ox4 := ox3.then k4
                    clear b3 ox3 k4
                    go_wp2_with fail
                    refine (pleaf_c x heU).mono ?_
                    rintro r w5 ⟨rfl, k5⟩
                    rw [hl]
                    have b5 := b4.kept k5
                    have ox5 := ox4.then k5
                    clear b4 ox4 k5
                    have hT5 := hT.past ox5 hg
                    go_wp2_with fail
                    refine (toleaf_no16 hT5 b5 h0 h1' x hz hy).mono ?_
                    rintro r w6 ⟨rfl, k6⟩
                    have b6 := b5.kept k6
                    have ox6 := ox5.then k6
                    go_wp2_with fail
                    rw [Exit.noGoto_ret]
                    go_ret
                    exact ⟨1, _, _, _, _, rfl, ox6, b6, ⟨by omega, hpU, hgU, fun v => by rw [if_neg (by decide)]; exact (by rw [rest_l1 h1 sq hl hz, if_pos hy]; try rfl)⟩⟩
                  · go_wp2_with fail
                    refine hsec.a.mono ?_
                    rintro e w2 ⟨rfl, o2, b2⟩
                    rw [hw]
                    clear hsec
                    go_upto_region 11 with fail
                    have o2d : Only (fun i => i = b) w w2.drew := (ox.trans o2).drew
                    have b2d := b2.kept ((Only.refl (fun _ => False) w2).drew)
                    clear b2 o2
                    refine wp_region_held_drew (S := fun w2 => ∃ x y, Wy w2 b (.pointer (some ⟨p, 0, none⟩)) a at_ k user x gp bts y) (by kernel_rfl) ⟨_, _, b2d⟩ (fun hHeld => ?_)
                    generalize w2.drew = wd at b2d hHeld o2d ⊢
                    refine wpAnyH_take (i := 0) (v := ?_) rfl (by kernel_rfl) (by kernel_rfl) (by kernel_rfl) (fun _ _ _ h => h) (Or.inl ⟨by rfl, ?_⟩) hHeld ?_
                    rotate_left
                    · intro w2 hSw
                      clear hSw
                      go_simp
                      all_goals rfl
                    try simp only [Act.put, List.getElem_toArray, List.getElem_cons_zero, List.setIfInBounds_toArray, List.set_cons_zero, List.set_cons_succ]
                    refine wpAnyH_take (i := 1) (v := ?_) rfl (by kernel_rfl) (by kernel_rfl) (by kernel_rfl) (fun _ _ _ h => h) (Or.inl ⟨by rfl, ?_⟩) hHeld ?_
                    rotate_left
                    · intro w2 hSw
                      clear hSw
                      go_simp
                      all_goals rfl
                    try simp only [Act.put, List.getElem_toArray, List.getElem_cons_zero, List.getElem_cons_succ, List.setIfInBounds_toArray, List.set_cons_zero, List.set_cons_succ]
                    refine wpAnyH_take (i := 2) (v := ?_) rfl (by kernel_rfl) (by kernel_rfl) (by kernel_rfl) (fun _ _ _ h => h) (Or.inl ⟨by rfl, ?_⟩) hHeld ?_
                    rotate_left
                    · intro w2 hSw
                      clear hSw
                      go_simp
                      all_goals rfl
                    try simp only [Act.put, List.getElem_toArray, List.getElem_cons_zero, List.getElem_cons_succ, List.setIfInBounds_toArray, List.set_cons_zero, List.set_cons_succ]
                    refine wpAnyH_take (i := 3) (v := ?_) rfl (by kernel_rfl) (by kernel_rfl) (by kernel_rfl) (fun _ _ _ h => h) (Or.inl ⟨by rfl, ?_⟩) hHeld ?_
                    rotate_left
                    · intro w2 hSw
                      obtain ⟨_, _, hSw⟩ := hSw
                      obtain ⟨z0, z1, z2, z3, z4, z5, z6, z7, z8, z9, z10, z11, z12, z13, z14, z15⟩ := wy_cells hSw
                      clear hSw
                      go_simp
                      all_goals rfl
                    try simp only [Act.put, List.getElem_toArray, List.getElem_cons_zero, List.getElem_cons_succ, List.setIfInBounds_toArray, List.set_cons_zero, List.set_cons_succ]
                    refine wpAnyH_take (i := 4) (v := ?_) rfl (by kernel_rfl) (by kernel_rfl) (by kernel_rfl) (fun _ _ _ h => h) (Or.inl ⟨by rfl, ?_⟩) hHeld ?_
                    rotate_left
                    · intro w2 hSw
                      clear hSw
                      go_simp
                      all_goals rfl
                    try simp only [Act.put, List.getElem_toArray, List.getElem_cons_zero, List.getElem_cons_succ, List.setIfInBounds_toArray, List.set_cons_zero, List.set_cons_succ]
                    refine wpAnyH_take (i := 5) (v := ?_) rfl (by kernel_rfl) (by kernel_rfl) (by kernel_rfl) (fun _ _ _ h => h) (Or.inl ⟨by rfl, ?_⟩) hHeld ?_
                    rotate_left
                    · intro w2 hSw
                      clear hSw
                      go_simp
                      all_goals rfl
                    try simp only [Act.put, List.getElem_toArray, List.getElem_cons_zero, List.getElem_cons_succ, List.setIfInBounds_toArray, List.set_cons_zero, List.set_cons_succ]
                    refine wpAnyH_take (i := 6) (v := ?_) rfl (by kernel_rfl) (by kernel_rfl) (by kernel_rfl) (fun _ _ _ h => h) (Or.inl ⟨by rfl, ?_⟩) hHeld ?_
                    rotate_left
                    · intro w2 hSw
                      clear hSw
                      go_simp
                      all_goals rfl
                    try simp only [Act.put, List.getElem_toArray, List.getElem_cons_zero, List.getElem_cons_succ, List.setIfInBounds_toArray, List.set_cons_zero, List.set_cons_succ]
                    refine wpAnyH_take (i := 7) (v := ?_) rfl (by kernel_rfl) (by kernel_rfl) (by kernel_rfl) (fun _ _ _ h => h) (Or.inl ⟨by rfl, ?_⟩) hHeld ?_
                    rotate_left
                    · intro w2 hSw
                      obtain ⟨_, _, hSw⟩ := hSw
                      obtain ⟨z0, z1, z2, z3, z4, z5, z6, z7, z8, z9, z10, z11, z12, z13, z14, z15⟩ := wy_cells hSw
                      clear hSw
                      go_simp
                      all_goals rfl
                    try simp only [Act.put, List.getElem_toArray, List.getElem_cons_zero, List.getElem_cons_succ, List.setIfInBounds_toArray, List.set_cons_zero, List.set_cons_succ]
                    refine wpAnyH_take (i := 9) (v := ?_) rfl (by kernel_rfl) (by kernel_rfl) (by kernel_rfl) (fun _ _ _ h => h) (Or.inl ⟨by rfl, ?_⟩) hHeld ?_
                    rotate_left
                    · intro w2 hSw
                      clear hSw
                      go_simp
                      all_goals rfl
                    try simp only [Act.put, List.getElem_toArray, List.getElem_cons_zero, List.getElem_cons_succ, List.setIfInBounds_toArray, List.set_cons_zero, List.set_cons_succ]
                    refine wpAnyH_take (i := 10) (v := ?_) rfl (by kernel_rfl) (by kernel_rfl) (by kernel_rfl) (fun _ _ _ h => h) (Or.inl ⟨by rfl, ?_⟩) hHeld ?_
                    rotate_left
                    · intro w2 hSw
                      clear hSw
                      go_simp
                      all_goals rfl
                    try simp only [Act.put, List.getElem_toArray, List.getElem_cons_zero, List.getElem_cons_succ, List.setIfInBounds_toArray, List.set_cons_zero, List.set_cons_succ]
                    refine wpAnyH_take (i := 11) (v := ?_) rfl (by kernel_rfl) (by kernel_rfl) (by kernel_rfl) (fun _ _ _ h => h) (Or.inl ⟨by rfl, ?_⟩) hHeld ?_
                    rotate_left
                    · intro w2 hSw
                      clear hSw
                      go_simp
                      all_goals rfl
                    try simp only [Act.put, List.getElem_toArray, List.getElem_cons_zero, List.getElem_cons_succ, List.setIfInBounds_toArray, List.set_cons_zero, List.set_cons_succ]
                    refine wpAnyH_take (i := 12) (v := ?_) rfl (by kernel_rfl) (by kernel_rfl) (by kernel_rfl) (fun _ _ _ h => h) (Or.inl ⟨by rfl, ?_⟩) hHeld ?_
                    rotate_left
                    · intro w2 hSw
                      obtain ⟨_, _, hSw⟩ := hSw
                      obtain ⟨z0, z1, z2, z3, z4, z5, z6, z7, z8, z9, z10, z11, z12, z13, z14, z15⟩ := wy_cells hSw
                      clear hSw
                      go_simp
                      all_goals rfl
                    try simp only [Act.put, List.getElem_toArray, List.getElem_cons_zero, List.getElem_cons_succ, List.setIfInBounds_toArray, List.set_cons_zero, List.set_cons_succ]
                    refine wpAnyH_take (i := 13) (v := ?_) rfl (by kernel_rfl) (by kernel_rfl) (by kernel_rfl) (fun _ _ _ h => h) (Or.inl ⟨by rfl, ?_⟩) hHeld ?_
                    rotate_left
                    · intro w2 hSw
                      clear hSw
                      go_simp
                      all_goals rfl
                    try simp only [Act.put, List.getElem_toArray, List.getElem_cons_zero, List.getElem_cons_succ, List.setIfInBounds_toArray, List.set_cons_zero, List.set_cons_succ]
                    refine wpAnyH_take (i := 14) (v := ?_) rfl (by kernel_rfl) (by kernel_rfl) (by kernel_rfl) (fun _ _ _ h => h) (Or.inl ⟨by rfl, ?_⟩) hHeld ?_
                    rotate_left
                    · intro w2 hSw
                      clear hSw
                      go_simp
                      all_goals rfl
                    try simp only [Act.put, List.getElem_toArray, List.getElem_cons_zero, List.getElem_cons_succ, List.setIfInBounds_toArray, List.set_cons_zero, List.set_cons_succ]
                    refine wpAnyH_take (i := 15) (v := ?_) rfl (by kernel_rfl) (by kernel_rfl) (by kernel_rfl) (fun _ _ _ h => h) (Or.inl ⟨by rfl, ?_⟩) hHeld ?_
                    rotate_left
                    · intro w2 hSw
                      clear hSw
                      go_simp
                      all_goals rfl
                    try simp only [Act.put, List.getElem_toArray, List.getElem_cons_zero, List.getElem_cons_succ, List.setIfInBounds_toArray, List.set_cons_zero, List.set_cons_succ]
                    refine wpAnyH_ready (rs := [8]) (by kernel_rfl) (by simp) ?_
                    refine AllReadyH.cons rfl (fun K hK => ?_) AllReadyH.nil
                    go_simp
                    refine (frameof_c hgU).mono ?_
                    rintro e wy ⟨rfl, hwy⟩
                    rw [hwy]
                    clear hwy wy
                    go_simp
                    refine hK.out _ _ hHeld (fun hHeld => ?_)
                    clear hK K
                    try simp only [Act.put, List.setIfInBounds_toArray, List.set_cons_zero, List.set_cons_succ]
                    refine wpAnyH_ready (rs := [16]) (by kernel_rfl) (by simp) ?_
                    refine AllReadyH.cons rfl (fun K hK => ?_) AllReadyH.nil
                    go_simp
                    refine (hen.a _ o2d).mono ?_
                    rintro e wn ⟨rfl, k3⟩
                    have b3 := b2d.kept k3
                    go_simp
                    refine hK.out _ _ ⟨_, _, b3⟩ (fun hHeld => ?_)
                    clear hK K
                    try simp only [Act.put, List.setIfInBounds_toArray, List.set_cons_zero, List.set_cons_succ]
                    refine wpAnyH_take (i := 17) (v := ?_) rfl (by kernel_rfl) (by kernel_rfl) (by kernel_rfl) (fun _ _ _ h => h) (Or.inl ⟨by rfl, ?_⟩) hHeld ?_
                    rotate_left
                    · intro w2 hSw
                      clear hSw
                      go_simp
                      all_goals rfl
                    try simp only [Act.put, List.getElem_toArray, List.getElem_cons_zero, List.getElem_cons_succ, List.setIfInBounds_toArray, List.set_cons_zero, List.set_cons_succ]
                    refine wpAnyH_take (i := 18) (v := ?_) rfl (by kernel_rfl) (by kernel_rfl) (by kernel_rfl) (fun _ _ _ h => h) (Or.inl ⟨by rfl, ?_⟩) hHeld ?_
                    rotate_left
                    · intro w2 hSw
                      clear hSw
                      go_simp
                      all_goals rfl
                    try simp only [Act.put, List.getElem_toArray, List.getElem_cons_zero, List.getElem_cons_succ, List.setIfInBounds_toArray, List.set_cons_zero, List.set_cons_succ]
                    refine wpAnyH_take (i := 19) (v := ?_) rfl (by kernel_rfl) (by kernel_rfl) (by kernel_rfl) (fun _ _ _ h => h) (Or.inl ⟨by rfl, ?_⟩) hHeld ?_
                    rotate_left
                    · intro w2 hSw
                      clear hSw
                      go_simp
                      all_goals rfl
                    try simp only [Act.put, List.getElem_toArray, List.getElem_cons_zero, List.getElem_cons_succ, List.setIfInBounds_toArray, List.set_cons_zero, List.set_cons_succ]
                    refine wpAnyH_take (i := 20) (v := ?_) rfl (by kernel_rfl) (by kernel_rfl) (by kernel_rfl) (fun _ _ _ h => h) (Or.inl ⟨by rfl, ?_⟩) hHeld ?_
                    rotate_left
                    · intro w2 hSw
                      clear hSw
                      go_simp
                      all_goals rfl
                    try simp only [Act.put, List.getElem_toArray, List.getElem_cons_zero, List.getElem_cons_succ, List.setIfInBounds_toArray, List.set_cons_zero, List.set_cons_succ]
                    refine wpAnyH_take (i := 21) (v := ?_) rfl (by kernel_rfl) (by kernel_rfl) (by kernel_rfl) (fun _ _ _ h => h) (Or.inl ⟨by rfl, ?_⟩) hHeld ?_
                    rotate_left
                    · intro w2 hSw
                      clear hSw
                      go_simp
                      all_goals rfl
                    try simp only [Act.put, List.getElem_toArray, List.getElem_cons_zero, List.getElem_cons_succ, List.setIfInBounds_toArray, List.set_cons_zero, List.set_cons_succ]
                    refine wpAnyH_done (by kernel_rfl) ?_ _
                    have ox3 := o2d.then k3
                    clear o2d k3 b2d hHeld hen
                    go_wp2_with fail
                    refine (pis_c x heU).mono ?_
                    rintro r w4 ⟨rfl, k4⟩
                    rw [hi]
                    have b4 := b3.kept k4
                    have ox4 := ox3.then k4
                    clear b3 ox3 k4
                    go_wp2_with fail
                    refine (pleaf_c x heU).mono ?_
                    rintro r w5 ⟨rfl, k5⟩
                    rw [hl]
                    have b5 := b4.kept k5
                    have ox5 := ox4.then k5
                    clear b4 ox4 k5
                    have hT5 := hT.past ox5 hg
                    have hfb := fr_bd x
                    go_wp2_with fail
                    refine (toleaf_yes16 hT5 b5 h0 h1' x hz hy).mono ?_
                    rintro r w6 ⟨rfl, o6, b6⟩
                    go_wp2_with fail
                    exact ⟨⟨0, _, _, _, _, rfl, .inr (.inr ⟨rfl, by omega, by omega, fun v => by rw [rest_l1 h1 sq hl hz, if_neg (by rw [hy]; decide)]; try rfl⟩), b6, ox5.trans o6⟩, by simp [intOf]⟩
                · go_wp2_with fail
                  refine hsec.a.mono ?_
                  rintro e w2 ⟨rfl, o2, b2⟩
                  rw [hw]
                  clear hsec
                  go_upto_region 11 with fail
                  have o2d : Only (fun i => i = b) w w2.drew := (ox.trans o2).drew
                  have b2d := b2.kept ((Only.refl (fun _ => False) w2).drew)
                  clear b2 o2
                  refine wp_region_held_drew (S := fun w2 => ∃ x y, Wy w2 b (.pointer (some ⟨p, 0, none⟩)) a at_ k user x gp bts y) (by kernel_rfl) ⟨_, _, b2d⟩ (fun hHeld => ?_)
                  generalize w2.drew = wd at b2d hHeld o2d ⊢
                  refine wpAnyH_take (i := 0) (v := ?_) rfl (by kernel_rfl) (by kernel_rfl) (by kernel_rfl) (fun _ _ _ h => h) (Or.inl ⟨by rfl, ?_⟩) hHeld ?_
                  rotate_left
                  · intro w2 hSw
                    clear hSw
                    go_simp
                    all_goals rfl
                  try simp only [Act.put, List.getElem_toArray, List.getElem_cons_zero, List.setIfInBounds_toArray, List.set_cons_zero, List.set_cons_succ]
                  refine wpAnyH_take (i := 1) (v := ?_) rfl (by kernel_rfl) (by kernel_rfl) (by kernel_rfl) (fun _ _ _ h => h) (Or.inl ⟨by rfl, ?_⟩) hHeld ?_
                  rotate_left
                  · intro w2 hSw
                    clear hSw
                    go_simp
                    all_goals rfl
                  try simp only [Act.put, List.getElem_toArray, List.getElem_cons_zero, List.getElem_cons_succ, List.setIfInBounds_toArray, List.set_cons_zero, List.set_cons_succ]
                  refine wpAnyH_take (i := 2) (v := ?_) rfl (by kernel_rfl) (by kernel_rfl) (by kernel_rfl) (fun _ _ _ h => h) (Or.inl ⟨by rfl, ?_⟩) hHeld ?_
                  rotate_left
                  · intro w2 hSw
                    clear hSw
                    go_simp
                    all_goals rfl
                  try simp only [Act.put, List.getElem_toArray, List.getElem_cons_zero, List.getElem_cons_succ, List.setIfInBounds_toArray, List.set_cons_zero, List.set_cons_succ]
                  refine wpAnyH_take (i := 3) (v := ?_) rfl (by kernel_rfl) (by kernel_rfl) (by kernel_rfl) (fun _ _ _ h => h) (Or.inl ⟨by rfl, ?_⟩) hHeld ?_
                  rotate_left
                  · intro w2 hSw
                    obtain ⟨_, _, hSw⟩ := hSw
                    obtain ⟨z0, z1, z2, z3, z4, z5, z6, z7, z8, z9, z10, z11, z12, z13, z14, z15⟩ := wy_cells hSw
                    clear hSw
                    go_simp
                    all_goals rfl
                  try simp only [Act.put, List.getElem_toArray, List.getElem_cons_zero, List.getElem_cons_succ, List.setIfInBounds_toArray, List.set_cons_zero, List.set_cons_succ]
                  refine wpAnyH_take (i := 4) (v := ?_) rfl (by kernel_rfl) (by kernel_rfl) (by kernel_rfl) (fun _ _ _ h => h) (Or.inl ⟨by rfl, ?_⟩) hHeld ?_
                  rotate_left
                  · intro w2 hSw
                    clear hSw
                    go_simp
                    all_goals rfl
                  try simp only [Act.put, List.getElem_toArray, List.getElem_cons_zero, List.getElem_cons_succ, List.setIfInBounds_toArray, List.set_cons_zero, List.set_cons_succ]
                  refine wpAnyH_take (i := 5) (v := ?_) rfl (by kernel_rfl) (by kernel_rfl) (by kernel_rfl) (fun _ _ _ h => h) (Or.inl ⟨by rfl, ?_⟩) hHeld ?_
                  rotate_left
                  · intro w2 hSw
                    clear hSw
                    go_simp
                    all_goals rfl
                  try simp only [Act.put, List.getElem_toArray, List.getElem_cons_zero, List.getElem_cons_succ, List.setIfInBounds_toArray, List.set_cons_zero, List.set_cons_succ]
                  refine wpAnyH_take (i := 6) (v := ?_) rfl (by kernel_rfl) (by kernel_rfl) (by kernel_rfl) (fun _ _ _ h => h) (Or.inl ⟨by rfl, ?_⟩) hHeld ?_
                  rotate_left
                  · intro w2 hSw
                    clear hSw
                    go_simp
                    all_goals rfl
                  try simp only [Act.put, List.getElem_toArray, List.getElem_cons_zero, List.getElem_cons_succ, List.setIfInBounds_toArray, List.set_cons_zero, List.set_cons_succ]
                  refine wpAnyH_take (i := 7) (v := ?_) rfl (by kernel_rfl) (by kernel_rfl) (by kernel_rfl) (fun _ _ _ h => h) (Or.inl ⟨by rfl, ?_⟩) hHeld ?_
                  rotate_left
                  · intro w2 hSw
                    obtain ⟨_, _, hSw⟩ := hSw
                    obtain ⟨z0, z1, z2, z3, z4, z5, z6, z7, z8, z9, z10, z11, z12, z13, z14, z15⟩ := wy_cells hSw
                    clear hSw
                    go_simp
                    all_goals rfl
                  try simp only [Act.put, List.getElem_toArray, List.getElem_cons_zero, List.getElem_cons_succ, List.setIfInBounds_toArray, List.set_cons_zero, List.set_cons_succ]
                  refine wpAnyH_take (i := 9) (v := ?_) rfl (by kernel_rfl) (by kernel_rfl) (by kernel_rfl) (fun _ _ _ h => h) (Or.inl ⟨by rfl, ?_⟩) hHeld ?_
                  rotate_left
                  · intro w2 hSw
                    clear hSw
                    go_simp
                    all_goals rfl
                  try simp only [Act.put, List.getElem_toArray, List.getElem_cons_zero, List.getElem_cons_succ, List.setIfInBounds_toArray, List.set_cons_zero, List.set_cons_succ]
                  refine wpAnyH_take (i := 10) (v := ?_) rfl (by kernel_rfl) (by kernel_rfl) (by kernel_rfl) (fun _ _ _ h => h) (Or.inl ⟨by rfl, ?_⟩) hHeld ?_
                  rotate_left
                  · intro w2 hSw
                    clear hSw
                    go_simp
                    all_goals rfl
                  try simp only [Act.put, List.getElem_toArray, List.getElem_cons_zero, List.getElem_cons_succ, List.setIfInBounds_toArray, List.set_cons_zero, List.set_cons_succ]
                  refine wpAnyH_take (i := 11) (v := ?_) rfl (by kernel_rfl) (by kernel_rfl) (by kernel_rfl) (fun _ _ _ h => h) (Or.inl ⟨by rfl, ?_⟩) hHeld ?_
                  rotate_left
                  · intro w2 hSw
                    clear hSw
                    go_simp
                    all_goals rfl
                  try simp only [Act.put, List.getElem_toArray, List.getElem_cons_zero, List.getElem_cons_succ, List.setIfInBounds_toArray, List.set_cons_zero, List.set_cons_succ]
                  refine wpAnyH_take (i := 12) (v := ?_) rfl (by kernel_rfl) (by kernel_rfl) (by kernel_rfl) (fun _ _ _ h => h) (Or.inl ⟨by rfl, ?_⟩) hHeld ?_
                  rotate_left
                  · intro w2 hSw
                    obtain ⟨_, _, hSw⟩ := hSw
                    obtain ⟨z0, z1, z2, z3, z4, z5, z6, z7, z8, z9, z10, z11, z12, z13, z14, z15⟩ := wy_cells hSw
                    clear hSw
                    go_simp
                    all_goals rfl
                  try simp only [Act.put, List.getElem_toArray, List.getElem_cons_zero, List.getElem_cons_succ, List.setIfInBounds_toArray, List.set_cons_zero, List.set_cons_succ]
                  refine wpAnyH_take (i := 13) (v := ?_) rfl (by kernel_rfl) (by kernel_rfl) (by kernel_rfl) (fun _ _ _ h => h) (Or.inl ⟨by rfl, ?_⟩) hHeld ?_
                  rotate_left
                  · intro w2 hSw
                    clear hSw
                    go_simp
                    all_goals rfl
                  try simp only [Act.put, List.getElem_toArray, List.getElem_cons_zero, List.getElem_cons_succ, List.setIfInBounds_toArray, List.set_cons_zero, List.set_cons_succ]
                  refine wpAnyH_take (i := 14) (v := ?_) rfl (by kernel_rfl) (by kernel_rfl) (by kernel_rfl) (fun _ _ _ h => h) (Or.inl ⟨by rfl, ?_⟩) hHeld ?_
                  rotate_left
                  · intro w2 hSw
                    clear hSw
                    go_simp
                    all_goals rfl
                  try simp only [Act.put, List.getElem_toArray, List.getElem_cons_zero, List.getElem_cons_succ, List.setIfInBounds_toArray, List.set_cons_zero, List.set_cons_succ]
                  refine wpAnyH_take (i := 15) (v := ?_) rfl (by kernel_rfl) (by kernel_rfl) (by kernel_rfl) (fun _ _ _ h => h) (Or.inl ⟨by rfl, ?_⟩) hHeld ?_
                  rotate_left
                  · intro w2 hSw
                    clear hSw
                    go_simp
                    all_goals rfl
                  try simp only [Act.put, List.getElem_toArray, List.getElem_cons_zero, List.getElem_cons_succ, List.setIfInBounds_toArray, List.set_cons_zero, List.set_cons_succ]
                  refine wpAnyH_ready (rs := [8]) (by kernel_rfl) (by simp) ?_
                  refine AllReadyH.cons rfl (fun K hK => ?_) AllReadyH.nil
                  go_simp
                  refine (frameof_c hgU).mono ?_
                  rintro e wy ⟨rfl, hwy⟩
                  rw [hwy]
                  clear hwy wy
                  go_simp
                  refine hK.out _ _ hHeld (fun hHeld => ?_)
                  clear hK K
                  try simp only [Act.put, List.setIfInBounds_toArray, List.set_cons_zero, List.set_cons_succ]
                  refine wpAnyH_ready (rs := [16]) (by kernel_rfl) (by simp) ?_
                  refine AllReadyH.cons rfl (fun K hK => ?_) AllReadyH.nil
                  go_simp
                  refine (hen.a _ o2d).mono ?_
                  rintro e wn ⟨rfl, k3⟩
                  have b3 := b2d.kept k3
                  go_simp
                  refine hK.out _ _ ⟨_, _, b3⟩ (fun hHeld => ?_)
                  clear hK K
                  try simp only [Act.put, List.setIfInBounds_toArray, List.set_cons_zero, List.set_cons_succ]
                  refine wpAnyH_take (i := 17) (v := ?_) rfl (by kernel_rfl) (by kernel_rfl) (by kernel_rfl) (fun _ _ _ h => h) (Or.inl ⟨by rfl, ?_⟩) hHeld ?_
                  rotate_left
                  · intro w2 hSw
                    clear hSw
                    go_simp
                    all_goals rfl
                  try simp only [Act.put, List.getElem_toArray, List.getElem_cons_zero, List.getElem_cons_succ, List.setIfInBounds_toArray, List.set_cons_zero, List.set_cons_succ]
                  refine wpAnyH_take (i := 18) (v := ?_) rfl (by kernel_rfl) (by kernel_rfl) (by kernel_rfl) (fun _ _ _ h => h) (Or.inl ⟨by rfl, ?_⟩) hHeld ?_
                  rotate_left
                  · intro w2 hSw
                    clear hSw
                    go_simp
                    all_goals rfl
                  try simp only [Act.put, List.getElem_toArray, List.getElem_cons_zero, List.getElem_cons_succ, List.setIfInBounds_toArray, List.set_cons_zero, List.set_cons_succ]
                  refine wpAnyH_take (i := 19) (v := ?_) rfl (by kernel_rfl) (by kernel_rfl) (by kernel_rfl) (fun _ _ _ h => h) (Or.inl ⟨by rfl, ?_⟩) hHeld ?_
                  rotate_left
                  · intro w2 hSw
                    clear hSw
                    go_simp
                    all_goals rfl
                  try simp only [Act.put, List.getElem_toArray, List.getElem_cons_zero, List.getElem_cons_succ, List.setIfInBounds_toArray, List.set_cons_zero, List.set_cons_succ]
                  refine wpAnyH_take (i := 20) (v := ?_) rfl (by kernel_rfl) (by kernel_rfl) (by kernel_rfl) (fun _ _ _ h => h) (Or.inl ⟨by rfl, ?_⟩) hHeld ?_
                  rotate_left
                  · intro w2 hSw
                    clear hSw
                    go_simp
                    all_goals rfl
                  try simp only [Act.put, List.getElem_toArray, List.getElem_cons_zero, List.getElem_cons_succ, List.setIfInBounds_toArray, List.set_cons_zero, List.set_cons_succ]
                  refine wpAnyH_take (i := 21) (v := ?_) rfl (by kernel_rfl) (by kernel_rfl) (by kernel_rfl) (fun _ _ _ h => h) (Or.inl ⟨by rfl, ?_⟩) hHeld ?_
                  rotate_left
                  · intro w2 hSw
                    clear hSw
                    go_simp
                    all_goals rfl
                  try simp only [Act.put, List.getElem_toArray, List.getElem_cons_zero, List.getElem_cons_succ, List.setIfInBounds_toArray, List.set_cons_zero, List.set_cons_succ]
                  refine wpAnyH_done (by kernel_rfl) ?_ _
                  have ox3 := o2d.then k3
                  clear o2d k3 b2d hHeld hen
                  go_wp2_with fail
                  refine (pis_c x heU).mono ?_
                  rintro r w4 ⟨rfl, k4⟩
                  rw [hi]
                  have b4 := b3.kept k4
                  have ox4 := ox3.then k4
                  clear b3 ox3 k4
                  go_wp2_with fail
                  refine (pleaf_c x heU).mono ?_
                  rintro r w5 ⟨rfl, k5⟩
                  rw [hl]
                  have b5 := b4.kept k5
                  have ox5 := ox4.then k5
                  clear b4 ox4 k5
                  go_wp2_with fail
                  refine (toleaf_awry b5 h0 h1' x hz).mono ?_
                  rintro r w6 ⟨rfl, k6⟩
                  have b6 := b5.kept k6
                  have ox6 := ox5.then k6
                  go_wp2_with fail
                  rw [Exit.noGoto_ret]
                  go_ret
                  exact ⟨1, _, _, _, _, rfl, ox6, b6, ⟨by omega, hpU, hgU, fun v => by rw [if_neg (by decide)]; exact rest_n1 h1 sq (.inr ⟨hl, hz⟩)⟩⟩
        · have hw : wrongI 1 = 2 := rfl
          have sq := st1 rfl
          clear st0 st1 st2
          go_wp2_with fail
          refine hsec.a.mono ?_
          rintro e w2 ⟨rfl, o2, b2⟩
          rw [hw]
          clear hsec
          go_wp2_with fail
          rw [Exit.noGoto_ret]
          go_ret
          exact ⟨2, _, _, _, _, rfl, ox.trans o2, b2, ⟨by omega, hpU, hgU, fun v => by rw [if_neg (by decide)]; exact rest_s1 h1 sq⟩⟩
        · have hw : wrongI 2 = 3 := rfl
          have sq := st2 rfl
          clear st0 st1 st2
          go_wp2_with fail
          refine hsec.a.mono ?_
          rintro e w2 ⟨rfl, o2, b2⟩
          rw [hw]
          clear hsec
          go_wp2_with fail
          rw [Exit.noGoto_ret]
          go_ret
          exact ⟨3, _, _, _, _, rfl, ox.trans o2, b2, ⟨by omega, hpU, hgU, fun v => by rw [if_neg (by decide)]; exact rest_s1 h1 sq⟩⟩
      · have t0 := (fr_bd es).1
        have t1 := (fr_bd es).2
        have i0 := hlw.1
        have i1 := hlw.2
        have hgs := gst_bd hm.byte a (frI es * 256 + 8 * lowI at_) 1 false (by omega)
        have st1 := stp_1 (B := B) (a := a) (k := k) (t := frI es) (i := lowI at_)
        have st2 := stp_2 (B := B) (a := a) (k := k) (t := frI es) (i := lowI at_)
        have st0 := stp_0 (k := k) hm.byte (a := a) (t := frI es) (i := lowI at_) t0 i0 i1
        have hpU : U (frI es * 256 + 8 * lowI at_) := by unfold U; omega
        have hsec : GsAll wr b p a at_ k user (frI es * 256 + 8 * lowI at_) lies bts host true (gstS B a (frI es * 256 + 8 * lowI at_) 1 false) := ⟨gosecond_tab (hT.past ox hg) (hm.carry ox hp.symm hq.symm) hb hpU⟩
        clear hb
        generalize gstS B a (frI es * 256 + 8 * lowI at_) 1 false = g at *
        obtain ⟨gp, gb, gc⟩ := g
        simp only at hgs st1 st2 st0
        obtain ⟨g0, g1, hcc⟩ := hgs
        have hgU : U gp := by unfold U; omega
        rcases hcc with rfl | rfl | rfl
        · have hw : wrongI 0 = 0 := rfl
          have sq := st0 rfl
          clear st0 st1 st2
          have hen : EnAll w b p (gp / 256) (gp % 256 / 8) (entE B (gp / 256) (gp % 256 / 8)) (entO (gp / 256) (gp % 256 / 8)) := ⟨fun w1 o1 => wentry_any ⟨rfl⟩ (hm.carry o1 hp.symm hq.symm) _ _⟩
          have heU := U_ent hm.byte (gp / 256) (gp % 256 / 8)
          generalize entE B (gp / 256) (gp % 256 / 8) = x at *
          generalize entO (gp / 256) (gp % 256 / 8) = o at *
          have hq8 : IntKind.i64.wrap (IntKind.u64.wrap ((gp.tmod 256).tdiv 8)) = gp % 256 / 8 := by rw [Int.tmod_eq_emod_of_nonneg g0, Int.tdiv_eq_ediv_of_nonneg (by omega), IntKind.wrap_u64, IntKind.wrap_i64]; omega
          have f1 : 0 ≤ gp / 256 := by omega
          cases o
          · rw [cond_false] at sq
            go_wp2_with fail
            refine hsec.a.mono ?_
            rintro e w2 ⟨rfl, o2, b2⟩
            rw [hw]
            clear hsec
            go_upto_region 11 with fail
            have o2d : Only (fun i => i = b) w w2.drew := (ox.trans o2).drew
            have b2d := b2.kept ((Only.refl (fun _ => False) w2).drew)
            clear b2 o2
            refine wp_region_held_drew (S := fun w2 => ∃ x y, Wy w2 b (.pointer (some ⟨p, 0, none⟩)) a at_ k user x gp bts y) (by kernel_rfl) ⟨_, _, b2d⟩ (fun hHeld => ?_)
            generalize w2.drew = wd at b2d hHeld o2d ⊢
            refine wpAnyH_take (i := 0) (v := ?_) rfl (by kernel_rfl) (by kernel_rfl) (by kernel_rfl) (fun _ _ _ h => h) (Or.inl ⟨by rfl, ?_⟩) hHeld ?_
            rotate_left
            · intro w2 hSw
              clear hSw
              go_simp
              all_goals rfl
            try simp only [Act.put, List.getElem_toArray, List.getElem_cons_zero, List.setIfInBounds_toArray, List.set_cons_zero, List.set_cons_succ]
            refine wpAnyH_take (i := 1) (v := ?_) rfl (by kernel_rfl) (by kernel_rfl) (by kernel_rfl) (fun _ _ _ h => h) (Or.inl ⟨by rfl, ?_⟩) hHeld ?_
            rotate_left
            · intro w2 hSw
              clear hSw
              go_simp
              all_goals rfl
            try simp only [Act.put, List.getElem_toArray, List.getElem_cons_zero, List.getElem_cons_succ, List.setIfInBounds_toArray, List.set_cons_zero, List.set_cons_succ]
            refine wpAnyH_take (i := 2) (v := ?_) rfl (by kernel_rfl) (by kernel_rfl) (by kernel_rfl) (fun _ _ _ h => h) (Or.inl ⟨by rfl, ?_⟩) hHeld ?_
            rotate_left
            · intro w2 hSw
              clear hSw
              go_simp
              all_goals rfl
            try simp only [Act.put, List.getElem_toArray, List.getElem_cons_zero, List.getElem_cons_succ, List.setIfInBounds_toArray, List.set_cons_zero, List.set_cons_succ]
            refine wpAnyH_take (i := 3) (v := ?_) rfl (by kernel_rfl) (by kernel_rfl) (by kernel_rfl) (fun _ _ _ h => h) (Or.inl ⟨by rfl, ?_⟩) hHeld ?_
            rotate_left
            · intro w2 hSw
              obtain ⟨_, _, hSw⟩ := hSw
              obtain ⟨z0, z1, z2, z3, z4, z5, z6, z7, z8, z9, z10, z11, z12, z13, z14, z15⟩ := wy_cells hSw
              clear hSw
              go_simp
              all_goals rfl
            try simp only [Act.put, List.getElem_toArray, List.getElem_cons_zero, List.getElem_cons_succ, List.setIfInBounds_toArray, List.set_cons_zero, List.set_cons_succ]
            refine wpAnyH_take (i := 4) (v := ?_) rfl (by kernel_rfl) (by kernel_rfl) (by kernel_rfl) (fun _ _ _ h => h) (Or.inl ⟨by rfl, ?_⟩) hHeld ?_
            rotate_left
            · intro w2 hSw
              clear hSw
              go_simp
              all_goals rfl
            try simp only [Act.put, List.getElem_toArray, List.getElem_cons_zero, List.getElem_cons_succ, List.setIfInBounds_toArray, List.set_cons_zero, List.set_cons_succ]
            refine wpAnyH_take (i := 5) (v := ?_) rfl (by kernel_rfl) (by kernel_rfl) (by kernel_rfl) (fun _ _ _ h => h) (Or.inl ⟨by rfl, ?_⟩) hHeld ?_
            rotate_left
            · intro w2 hSw
              clear hSw
              go_simp
              all_goals rfl
            try simp only [Act.put, List.getElem_toArray, List.getElem_cons_zero, List.getElem_cons_succ, List.setIfInBounds_toArray, List.set_cons_zero, List.set_cons_succ]
            refine wpAnyH_take (i := 6) (v := ?_) rfl (by kernel_rfl) (by kernel_rfl) (by kernel_rfl) (fun _ _ _ h => h) (Or.inl ⟨by rfl, ?_⟩) hHeld ?_
            rotate_left
            · intro w2 hSw
              clear hSw
              go_simp
              all_goals rfl
            try simp only [Act.put, List.getElem_toArray, List.getElem_cons_zero, List.getElem_cons_succ, List.setIfInBounds_toArray, List.set_cons_zero, List.set_cons_succ]
            refine wpAnyH_take (i := 7) (v := ?_) rfl (by kernel_rfl) (by kernel_rfl) (by kernel_rfl) (fun _ _ _ h => h) (Or.inl ⟨by rfl, ?_⟩) hHeld ?_
            rotate_left
            · intro w2 hSw
              obtain ⟨_, _, hSw⟩ := hSw
              obtain ⟨z0, z1, z2, z3, z4, z5, z6, z7, z8, z9, z10, z11, z12, z13, z14, z15⟩ := wy_cells hSw
              clear hSw
              go_simp
              all_goals rfl
            try simp only [Act.put, List.getElem_toArray, List.getElem_cons_zero, List.getElem_cons_succ, List.setIfInBounds_toArray, List.set_cons_zero, List.set_cons_succ]
            refine wpAnyH_take (i := 9) (v := ?_) rfl (by kernel_rfl) (by kernel_rfl) (by kernel_rfl) (fun _ _ _ h => h) (Or.inl ⟨by rfl, ?_⟩) hHeld ?_
            rotate_left
            · intro w2 hSw
              clear hSw
              go_simp
              all_goals rfl
            try simp only [Act.put, List.getElem_toArray, List.getElem_cons_zero, List.getElem_cons_succ, List.setIfInBounds_toArray, List.set_cons_zero, List.set_cons_succ]
            refine wpAnyH_take (i := 10) (v := ?_) rfl (by kernel_rfl) (by kernel_rfl) (by kernel_rfl) (fun _ _ _ h => h) (Or.inl ⟨by rfl, ?_⟩) hHeld ?_
            rotate_left
            · intro w2 hSw
              clear hSw
              go_simp
              all_goals rfl
            try simp only [Act.put, List.getElem_toArray, List.getElem_cons_zero, List.getElem_cons_succ, List.setIfInBounds_toArray, List.set_cons_zero, List.set_cons_succ]
            refine wpAnyH_take (i := 11) (v := ?_) rfl (by kernel_rfl) (by kernel_rfl) (by kernel_rfl) (fun _ _ _ h => h) (Or.inl ⟨by rfl, ?_⟩) hHeld ?_
            rotate_left
            · intro w2 hSw
              clear hSw
              go_simp
              all_goals rfl
            try simp only [Act.put, List.getElem_toArray, List.getElem_cons_zero, List.getElem_cons_succ, List.setIfInBounds_toArray, List.set_cons_zero, List.set_cons_succ]
            refine wpAnyH_take (i := 12) (v := ?_) rfl (by kernel_rfl) (by kernel_rfl) (by kernel_rfl) (fun _ _ _ h => h) (Or.inl ⟨by rfl, ?_⟩) hHeld ?_
            rotate_left
            · intro w2 hSw
              obtain ⟨_, _, hSw⟩ := hSw
              obtain ⟨z0, z1, z2, z3, z4, z5, z6, z7, z8, z9, z10, z11, z12, z13, z14, z15⟩ := wy_cells hSw
              clear hSw
              go_simp
              all_goals rfl
            try simp only [Act.put, List.getElem_toArray, List.getElem_cons_zero, List.getElem_cons_succ, List.setIfInBounds_toArray, List.set_cons_zero, List.set_cons_succ]
            refine wpAnyH_take (i := 13) (v := ?_) rfl (by kernel_rfl) (by kernel_rfl) (by kernel_rfl) (fun _ _ _ h => h) (Or.inl ⟨by rfl, ?_⟩) hHeld ?_
            rotate_left
            · intro w2 hSw
              clear hSw
              go_simp
              all_goals rfl
            try simp only [Act.put, List.getElem_toArray, List.getElem_cons_zero, List.getElem_cons_succ, List.setIfInBounds_toArray, List.set_cons_zero, List.set_cons_succ]
            refine wpAnyH_take (i := 14) (v := ?_) rfl (by kernel_rfl) (by kernel_rfl) (by kernel_rfl) (fun _ _ _ h => h) (Or.inl ⟨by rfl, ?_⟩) hHeld ?_
            rotate_left
            · intro w2 hSw
              clear hSw
              go_simp
              all_goals rfl
            try simp only [Act.put, List.getElem_toArray, List.getElem_cons_zero, List.getElem_cons_succ, List.setIfInBounds_toArray, List.set_cons_zero, List.set_cons_succ]
            refine wpAnyH_take (i := 15) (v := ?_) rfl (by kernel_rfl) (by kernel_rfl) (by kernel_rfl) (fun _ _ _ h => h) (Or.inl ⟨by rfl, ?_⟩) hHeld ?_
            rotate_left
            · intro w2 hSw
              clear hSw
              go_simp
              all_goals rfl
            try simp only [Act.put, List.getElem_toArray, List.getElem_cons_zero, List.getElem_cons_succ, List.setIfInBounds_toArray, List.set_cons_zero, List.set_cons_succ]
            refine wpAnyH_ready (rs := [8]) (by kernel_rfl) (by simp) ?_
            refine AllReadyH.cons rfl (fun K hK => ?_) AllReadyH.nil
            go_simp
            refine (frameof_c hgU).mono ?_
            rintro e wy ⟨rfl, hwy⟩
            rw [hwy]
            clear hwy wy
            go_simp
            refine hK.out _ _ hHeld (fun hHeld => ?_)
            clear hK K
            try simp only [Act.put, List.setIfInBounds_toArray, List.set_cons_zero, List.set_cons_succ]
            refine wpAnyH_ready (rs := [16]) (by kernel_rfl) (by simp) ?_
            refine AllReadyH.cons rfl (fun K hK => ?_) AllReadyH.nil
            go_simp
            refine (hen.a _ o2d).mono ?_
            rintro e wn ⟨rfl, k3⟩
            have b3 := b2d.kept k3
            go_simp
            refine hK.out _ _ ⟨_, _, b3⟩ (fun hHeld => ?_)
            clear hK K
            try simp only [Act.put, List.setIfInBounds_toArray, List.set_cons_zero, List.set_cons_succ]
            refine wpAnyH_take (i := 17) (v := ?_) rfl (by kernel_rfl) (by kernel_rfl) (by kernel_rfl) (fun _ _ _ h => h) (Or.inl ⟨by rfl, ?_⟩) hHeld ?_
            rotate_left
            · intro w2 hSw
              clear hSw
              go_simp
              all_goals rfl
            try simp only [Act.put, List.getElem_toArray, List.getElem_cons_zero, List.getElem_cons_succ, List.setIfInBounds_toArray, List.set_cons_zero, List.set_cons_succ]
            refine wpAnyH_take (i := 18) (v := ?_) rfl (by kernel_rfl) (by kernel_rfl) (by kernel_rfl) (fun _ _ _ h => h) (Or.inl ⟨by rfl, ?_⟩) hHeld ?_
            rotate_left
            · intro w2 hSw
              clear hSw
              go_simp
              all_goals rfl
            try simp only [Act.put, List.getElem_toArray, List.getElem_cons_zero, List.getElem_cons_succ, List.setIfInBounds_toArray, List.set_cons_zero, List.set_cons_succ]
            refine wpAnyH_take (i := 19) (v := ?_) rfl (by kernel_rfl) (by kernel_rfl) (by kernel_rfl) (fun _ _ _ h => h) (Or.inl ⟨by rfl, ?_⟩) hHeld ?_
            rotate_left
            · intro w2 hSw
              clear hSw
              go_simp
              all_goals rfl
            try simp only [Act.put, List.getElem_toArray, List.getElem_cons_zero, List.getElem_cons_succ, List.setIfInBounds_toArray, List.set_cons_zero, List.set_cons_succ]
            refine wpAnyH_take (i := 20) (v := ?_) rfl (by kernel_rfl) (by kernel_rfl) (by kernel_rfl) (fun _ _ _ h => h) (Or.inl ⟨by rfl, ?_⟩) hHeld ?_
            rotate_left
            · intro w2 hSw
              clear hSw
              go_simp
              all_goals rfl
            try simp only [Act.put, List.getElem_toArray, List.getElem_cons_zero, List.getElem_cons_succ, List.setIfInBounds_toArray, List.set_cons_zero, List.set_cons_succ]
            refine wpAnyH_take (i := 21) (v := ?_) rfl (by kernel_rfl) (by kernel_rfl) (by kernel_rfl) (fun _ _ _ h => h) (Or.inl ⟨by rfl, ?_⟩) hHeld ?_
            rotate_left
            · intro w2 hSw
              clear hSw
              go_simp
              all_goals rfl
            try simp only [Act.put, List.getElem_toArray, List.getElem_cons_zero, List.getElem_cons_succ, List.setIfInBounds_toArray, List.set_cons_zero, List.set_cons_succ]
            refine wpAnyH_done (by kernel_rfl) ?_ _
            have ox3 := o2d.then k3
            clear o2d k3 b2d hHeld hen
            go_wp2_with fail
            rw [Exit.noGoto_ret]
            go_ret
            exact ⟨3, _, _, _, _, rfl, ox3, b3, ⟨by omega, hpU, hgU, fun v => by rw [if_neg (by decide)]; exact rest_s2 h1 hs1 hi1 hl1 sq⟩⟩
          · rw [cond_true] at sq
            cases hi : isE x
            · go_wp2_with fail
              refine hsec.a.mono ?_
              rintro e w2 ⟨rfl, o2, b2⟩
              rw [hw]
              clear hsec
              go_upto_region 11 with fail
              have o2d : Only (fun i => i = b) w w2.drew := (ox.trans o2).drew
              have b2d := b2.kept ((Only.refl (fun _ => False) w2).drew)
              clear b2 o2
              refine wp_region_held_drew (S := fun w2 => ∃ x y, Wy w2 b (.pointer (some ⟨p, 0, none⟩)) a at_ k user x gp bts y) (by kernel_rfl) ⟨_, _, b2d⟩ (fun hHeld => ?_)
              generalize w2.drew = wd at b2d hHeld o2d ⊢
              refine wpAnyH_take (i := 0) (v := ?_) rfl (by kernel_rfl) (by kernel_rfl) (by kernel_rfl) (fun _ _ _ h => h) (Or.inl ⟨by rfl, ?_⟩) hHeld ?_
              rotate_left
              · intro w2 hSw
                clear hSw
                go_simp
                all_goals rfl
              try simp only [Act.put, List.getElem_toArray, List.getElem_cons_zero, List.setIfInBounds_toArray, List.set_cons_zero, List.set_cons_succ]
              refine wpAnyH_take (i := 1) (v := ?_) rfl (by kernel_rfl) (by kernel_rfl) (by kernel_rfl) (fun _ _ _ h => h) (Or.inl ⟨by rfl, ?_⟩) hHeld ?_
              rotate_left
              · intro w2 hSw
                clear hSw
                go_simp
                all_goals rfl
              try simp only [Act.put, List.getElem_toArray, List.getElem_cons_zero, List.getElem_cons_succ, List.setIfInBounds_toArray, List.set_cons_zero, List.set_cons_succ]
              refine wpAnyH_take (i := 2) (v := ?_) rfl (by kernel_rfl) (by kernel_rfl) (by kernel_rfl) (fun _ _ _ h => h) (Or.inl ⟨by rfl, ?_⟩) hHeld ?_
              rotate_left
              · intro w2 hSw
                clear hSw
                go_simp
                all_goals rfl
              try simp only [Act.put, List.getElem_toArray, List.getElem_cons_zero, List.getElem_cons_succ, List.setIfInBounds_toArray, List.set_cons_zero, List.set_cons_succ]
              refine wpAnyH_take (i := 3) (v := ?_) rfl (by kernel_rfl) (by kernel_rfl) (by kernel_rfl) (fun _ _ _ h => h) (Or.inl ⟨by rfl, ?_⟩) hHeld ?_
              rotate_left
              · intro w2 hSw
                obtain ⟨_, _, hSw⟩ := hSw
                obtain ⟨z0, z1, z2, z3, z4, z5, z6, z7, z8, z9, z10, z11, z12, z13, z14, z15⟩ := wy_cells hSw
                clear hSw
                go_simp
                all_goals rfl
              try simp only [Act.put, List.getElem_toArray, List.getElem_cons_zero, List.getElem_cons_succ, List.setIfInBounds_toArray, List.set_cons_zero, List.set_cons_succ]
              refine wpAnyH_take (i := 4) (v := ?_) rfl (by kernel_rfl) (by kernel_rfl) (by kernel_rfl) (fun _ _ _ h => h) (Or.inl ⟨by rfl, ?_⟩) hHeld ?_
              rotate_left
              · intro w2 hSw
                clear hSw
                go_simp
                all_goals rfl
              try simp only [Act.put, List.getElem_toArray, List.getElem_cons_zero, List.getElem_cons_succ, List.setIfInBounds_toArray, List.set_cons_zero, List.set_cons_succ]
              refine wpAnyH_take (i := 5) (v := ?_) rfl (by kernel_rfl) (by kernel_rfl) (by kernel_rfl) (fun _ _ _ h => h) (Or.inl ⟨by rfl, ?_⟩) hHeld ?_
              rotate_left
              · intro w2 hSw
                clear hSw
                go_simp
                all_goals rfl
              try simp only [Act.put, List.getElem_toArray, List.getElem_cons_zero, List.getElem_cons_succ, List.setIfInBounds_toArray, List.set_cons_zero, List.set_cons_succ]
              refine wpAnyH_take (i := 6) (v := ?_) rfl (by kernel_rfl) (by kernel_rfl) (by kernel_rfl) (fun _ _ _ h => h) (Or.inl ⟨by rfl, ?_⟩) hHeld ?_
              rotate_left
              · intro w2 hSw
                clear hSw
                go_simp
                all_goals rfl
              try simp only [Act.put, List.getElem_toArray, List.getElem_cons_zero, List.getElem_cons_succ, List.setIfInBounds_toArray, List.set_cons_zero, List.set_cons_succ]
              refine wpAnyH_take (i := 7) (v := ?_) rfl (by kernel_rfl) (by kernel_rfl) (by kernel_rfl) (fun _ _ _ h => h) (Or.inl ⟨by rfl, ?_⟩) hHeld ?_
              rotate_left
              · intro w2 hSw
                obtain ⟨_, _, hSw⟩ := hSw
                obtain ⟨z0, z1, z2, z3, z4, z5, z6, z7, z8, z9, z10, z11, z12, z13, z14, z15⟩ := wy_cells hSw
                clear hSw
                go_simp
                all_goals rfl
              try simp only [Act.put, List.getElem_toArray, List.getElem_cons_zero, List.getElem_cons_succ, List.setIfInBounds_toArray, List.set_cons_zero, List.set_cons_succ]
              refine wpAnyH_take (i := 9) (v := ?_) rfl (by kernel_rfl) (by kernel_rfl) (by kernel_rfl) (fun _ _ _ h => h) (Or.inl ⟨by rfl, ?_⟩) hHeld ?_
              rotate_left
              · intro w2 hSw
                clear hSw
                go_simp
                all_goals rfl
              try simp only [Act.put, List.getElem_toArray, List.getElem_cons_zero, List.getElem_cons_succ, List.setIfInBounds_toArray, List.set_cons_zero, List.set_cons_succ]
              refine wpAnyH_take (i := 10) (v := ?_) rfl (by kernel_rfl) (by kernel_rfl) (by kernel_rfl) (fun _ _ _ h => h) (Or.inl ⟨by rfl, ?_⟩) hHeld ?_
              rotate_left
              · intro w2 hSw
                clear hSw
                go_simp
                all_goals rfl
              try simp only [Act.put, List.getElem_toArray, List.getElem_cons_zero, List.getElem_cons_succ, List.setIfInBounds_toArray, List.set_cons_zero, List.set_cons_succ]
              refine wpAnyH_take (i := 11) (v := ?_) rfl (by kernel_rfl) (by kernel_rfl) (by kernel_rfl) (fun _ _ _ h => h) (Or.inl ⟨by rfl, ?_⟩) hHeld ?_
              rotate_left
              · intro w2 hSw
                clear hSw
                go_simp
                all_goals rfl
              try simp only [Act.put, List.getElem_toArray, List.getElem_cons_zero, List.getElem_cons_succ, List.setIfInBounds_toArray, List.set_cons_zero, List.set_cons_succ]
              refine wpAnyH_take (i := 12) (v := ?_) rfl (by kernel_rfl) (by kernel_rfl) (by kernel_rfl) (fun _ _ _ h => h) (Or.inl ⟨by rfl, ?_⟩) hHeld ?_
              rotate_left
              · intro w2 hSw
                obtain ⟨_, _, hSw⟩ := hSw
                obtain ⟨z0, z1, z2, z3, z4, z5, z6, z7, z8, z9, z10, z11, z12, z13, z14, z15⟩ := wy_cells hSw
                clear hSw
                go_simp
                all_goals rfl
              try simp only [Act.put, List.getElem_toArray, List.getElem_cons_zero, List.getElem_cons_succ, List.setIfInBounds_toArray, List.set_cons_zero, List.set_cons_succ]
              refine wpAnyH_take (i := 13) (v := ?_) rfl (by kernel_rfl) (by kernel_rfl) (by kernel_rfl) (fun _ _ _ h => h) (Or.inl ⟨by rfl, ?_⟩) hHeld ?_
              rotate_left
              · intro w2 hSw
                clear hSw
                go_simp
                all_goals rfl
              try simp only [Act.put, List.getElem_toArray, List.getElem_cons_zero, List.getElem_cons_succ, List.setIfInBounds_toArray, List.set_cons_zero, List.set_cons_succ]
              refine wpAnyH_take (i := 14) (v := ?_) rfl (by kernel_rfl) (by kernel_rfl) (by kernel_rfl) (fun _ _ _ h => h) (Or.inl ⟨by rfl, ?_⟩) hHeld ?_
              rotate_left
              · intro w2 hSw
                clear hSw
                go_simp
                all_goals rfl
              try simp only [Act.put, List.getElem_toArray, List.getElem_cons_zero, List.getElem_cons_succ, List.setIfInBounds_toArray, List.set_cons_zero, List.set_cons_succ]
              refine wpAnyH_take (i := 15) (v := ?_) rfl (by kernel_rfl) (by kernel_rfl) (by kernel_rfl) (fun _ _ _ h => h) (Or.inl ⟨by rfl, ?_⟩) hHeld ?_
              rotate_left
              · intro w2 hSw
                clear hSw
                go_simp
                all_goals rfl
              try simp only [Act.put, List.getElem_toArray, List.getElem_cons_zero, List.getElem_cons_succ, List.setIfInBounds_toArray, List.set_cons_zero, List.set_cons_succ]
              refine wpAnyH_ready (rs := [8]) (by kernel_rfl) (by simp) ?_
              refine AllReadyH.cons rfl (fun K hK => ?_) AllReadyH.nil
              go_simp
              refine (frameof_c hgU).mono ?_
              rintro e wy ⟨rfl, hwy⟩
              rw [hwy]
              clear hwy wy
              go_simp
              refine hK.out _ _ hHeld (fun hHeld => ?_)
              clear hK K
              try simp only [Act.put, List.setIfInBounds_toArray, List.set_cons_zero, List.set_cons_succ]
              refine wpAnyH_ready (rs := [16]) (by kernel_rfl) (by simp) ?_
              refine AllReadyH.cons rfl (fun K hK => ?_) AllReadyH.nil
              go_simp
              refine (hen.a _ o2d).mono ?_
              rintro e wn ⟨rfl, k3⟩
              have b3 := b2d.kept k3
              go_simp
              refine hK.out _ _ ⟨_, _, b3⟩ (fun hHeld => ?_)
              clear hK K
              try simp only [Act.put, List.setIfInBounds_toArray, List.set_cons_zero, List.set_cons_succ]
              refine wpAnyH_take (i := 17) (v := ?_) rfl (by kernel_rfl) (by kernel_rfl) (by kernel_rfl) (fun _ _ _ h => h) (Or.inl ⟨by rfl, ?_⟩) hHeld ?_
              rotate_left
              · intro w2 hSw
                clear hSw
                go_simp
                all_goals rfl
              try simp only [Act.put, List.getElem_toArray, List.getElem_cons_zero, List.getElem_cons_succ, List.setIfInBounds_toArray, List.set_cons_zero, List.set_cons_succ]
              refine wpAnyH_take (i := 18) (v := ?_) rfl (by kernel_rfl) (by kernel_rfl) (by kernel_rfl) (fun _ _ _ h => h) (Or.inl ⟨by rfl, ?_⟩) hHeld ?_
              rotate_left
              · intro w2 hSw
                clear hSw
                go_simp
                all_goals rfl
              try simp only [Act.put, List.getElem_toArray, List.getElem_cons_zero, List.getElem_cons_succ, List.setIfInBounds_toArray, List.set_cons_zero, List.set_cons_succ]
              refine wpAnyH_take (i := 19) (v := ?_) rfl (by kernel_rfl) (by kernel_rfl) (by kernel_rfl) (fun _ _ _ h => h) (Or.inl ⟨by rfl, ?_⟩) hHeld ?_
              rotate_left
              · intro w2 hSw
                clear hSw
                go_simp
                all_goals rfl
              try simp only [Act.put, List.getElem_toArray, List.getElem_cons_zero, List.getElem_cons_succ, List.setIfInBounds_toArray, List.set_cons_zero, List.set_cons_succ]
              refine wpAnyH_take (i := 20) (v := ?_) rfl (by kernel_rfl) (by kernel_rfl) (by kernel_rfl) (fun _ _ _ h => h) (Or.inl ⟨by rfl, ?_⟩) hHeld ?_
              rotate_left
              · intro w2 hSw
                clear hSw
                go_simp
                all_goals rfl
              try simp only [Act.put, List.getElem_toArray, List.getElem_cons_zero, List.getElem_cons_succ, List.setIfInBounds_toArray, List.set_cons_zero, List.set_cons_succ]
              refine wpAnyH_take (i := 21) (v := ?_) rfl (by kernel_rfl) (by kernel_rfl) (by kernel_rfl) (fun _ _ _ h => h) (Or.inl ⟨by rfl, ?_⟩) hHeld ?_
              rotate_left
              · intro w2 hSw
                clear hSw
                go_simp
                all_goals rfl
              try simp only [Act.put, List.getElem_toArray, List.getElem_cons_zero, List.getElem_cons_succ, List.setIfInBounds_toArray, List.set_cons_zero, List.set_cons_succ]
              refine wpAnyH_done (by kernel_rfl) ?_ _
              have ox3 := o2d.then k3
              clear o2d k3 b2d hHeld hen
              go_wp2_with fail
              refine (pis_c x heU).mono ?_
              rintro r w4 ⟨rfl, k4⟩
              rw [hi]
              have b4 := b3.kept k4
              have ox4 := ox3.then k4
              clear b3 ox3 k4
              go_wp2_with fail
              rw [Exit.noGoto_ret]
              go_ret
              exact ⟨1, _, _, _, _, rfl, ox4, b4, ⟨by omega, hpU, hgU, fun v => by rw [if_neg (by decide)]; exact rest_n2 h1 hs1 hi1 hl1 sq (by unfold leafE; rw [hi]; rfl)⟩⟩
            · cases hl : leafE x
              · go_wp2_with fail
                refine hsec.a.mono ?_
                rintro e w2 ⟨rfl, o2, b2⟩
                rw [hw]
                clear hsec
                go_upto_region 11 with fail
                have o2d : Only (fun i => i = b) w w2.drew := (ox.trans o2).drew
                have b2d := b2.kept ((Only.refl (fun _ => False) w2).drew)
                clear b2 o2
                refine wp_region_held_drew (S := fun w2 => ∃ x y, Wy w2 b (.pointer (some ⟨p, 0, none⟩)) a at_ k user x gp bts y) (by kernel_rfl) ⟨_, _, b2d⟩ (fun hHeld => ?_)
                generalize w2.drew = wd at b2d hHeld o2d ⊢
                refine wpAnyH_take (i := 0) (v := ?_) rfl (by kernel_rfl) (by kernel_rfl) (by kernel_rfl) (fun _ _ _ h => h) (Or.inl ⟨by rfl, ?_⟩) hHeld ?_
                rotate_left
                · intro w2 hSw
                  clear hSw
                  go_simp
                  all_goals rfl
                try simp only [Act.put, List.getElem_toArray, List.getElem_cons_zero, List.setIfInBounds_toArray, List.set_cons_zero, List.set_cons_succ]
                refine wpAnyH_take (i := 1) (v := ?_) rfl (by kernel_rfl) (by kernel_rfl) (by kernel_rfl) (fun _ _ _ h => h) (Or.inl ⟨by rfl, ?_⟩) hHeld ?_
                rotate_left
                · intro w2 hSw
                  clear hSw
                  go_simp
                  all_goals rfl
                try simp only [Act.put, List.getElem_toArray, List.getElem_cons_zero, List.getElem_cons_succ, List.setIfInBounds_toArray, List.set_cons_zero, List.set_cons_succ]
                refine wpAnyH_take (i := 2) (v := ?_) rfl (by kernel_rfl) (by kernel_rfl) (by kernel_rfl) (fun _ _ _ h => h) (Or.inl ⟨by rfl, ?_⟩) hHeld ?_
                rotate_left
                · intro w2 hSw
                  clear hSw
                  go_simp
                  all_goals rfl
                try simp only [Act.put, List.getElem_toArray, List.getElem_cons_zero, List.getElem_cons_succ, List.setIfInBounds_toArray, List.set_cons_zero, List.set_cons_succ]
                refine wpAnyH_take (i := 3) (v := ?_) rfl (by kernel_rfl) (by kernel_rfl) (by kernel_rfl) (fun _ _ _ h => h) (Or.inl ⟨by rfl, ?_⟩) hHeld ?_
                rotate_left
                · intro w2 hSw
                  obtain ⟨_, _, hSw⟩ := hSw
                  obtain ⟨z0, z1, z2, z3, z4, z5, z6, z7, z8, z9, z10, z11, z12, z13, z14, z15⟩ := wy_cells hSw
                  clear hSw
                  go_simp
                  all_goals rfl
                try simp only [Act.put, List.getElem_toArray, List.getElem_cons_zero, List.getElem_cons_succ, List.setIfInBounds_toArray, List.set_cons_zero, List.set_cons_succ]
                refine wpAnyH_take (i := 4) (v := ?_) rfl (by kernel_rfl) (by kernel_rfl) (by kernel_rfl) (fun _ _ _ h => h) (Or.inl ⟨by rfl, ?_⟩) hHeld ?_
                rotate_left
                · intro w2 hSw
                  clear hSw
                  go_simp
                  all_goals rfl
                try simp only [Act.put, List.getElem_toArray, List.getElem_cons_zero, List.getElem_cons_succ, List.setIfInBounds_toArray, List.set_cons_zero, List.set_cons_succ]
                refine wpAnyH_take (i := 5) (v := ?_) rfl (by kernel_rfl) (by kernel_rfl) (by kernel_rfl) (fun _ _ _ h => h) (Or.inl ⟨by rfl, ?_⟩) hHeld ?_
                rotate_left
                · intro w2 hSw
                  clear hSw
                  go_simp
                  all_goals rfl
                try simp only [Act.put, List.getElem_toArray, List.getElem_cons_zero, List.getElem_cons_succ, List.setIfInBounds_toArray, List.set_cons_zero, List.set_cons_succ]
                refine wpAnyH_take (i := 6) (v := ?_) rfl (by kernel_rfl) (by kernel_rfl) (by kernel_rfl) (fun _ _ _ h => h) (Or.inl ⟨by rfl, ?_⟩) hHeld ?_
                rotate_left
                · intro w2 hSw
                  clear hSw
                  go_simp
                  all_goals rfl
                try simp only [Act.put, List.getElem_toArray, List.getElem_cons_zero, List.getElem_cons_succ, List.setIfInBounds_toArray, List.set_cons_zero, List.set_cons_succ]
                refine wpAnyH_take (i := 7) (v := ?_) rfl (by kernel_rfl) (by kernel_rfl) (by kernel_rfl) (fun _ _ _ h => h) (Or.inl ⟨by rfl, ?_⟩) hHeld ?_
                rotate_left
                · intro w2 hSw
                  obtain ⟨_, _, hSw⟩ := hSw
                  obtain ⟨z0, z1, z2, z3, z4, z5, z6, z7, z8, z9, z10, z11, z12, z13, z14, z15⟩ := wy_cells hSw
                  clear hSw
                  go_simp
                  all_goals rfl
                try simp only [Act.put, List.getElem_toArray, List.getElem_cons_zero, List.getElem_cons_succ, List.setIfInBounds_toArray, List.set_cons_zero, List.set_cons_succ]
                refine wpAnyH_take (i := 9) (v := ?_) rfl (by kernel_rfl) (by kernel_rfl) (by kernel_rfl) (fun _ _ _ h => h) (Or.inl ⟨by rfl, ?_⟩) hHeld ?_
                rotate_left
                · intro w2 hSw
                  clear hSw
                  go_simp
                  all_goals rfl
                try simp only [Act.put, List.getElem_toArray, List.getElem_cons_zero, List.getElem_cons_succ, List.setIfInBounds_toArray, List.set_cons_zero, List.set_cons_succ]
                refine wpAnyH_take (i := 10) (v := ?_) rfl (by kernel_rfl) (by kernel_rfl) (by kernel_rfl) (fun _ _ _ h => h) (Or.inl ⟨by rfl, ?_⟩) hHeld ?_
                rotate_left
                · intro w2 hSw
                  clear hSw
                  go_simp
                  all_goals rfl
                try simp only [Act.put, List.getElem_toArray, List.getElem_cons_zero, List.getElem_cons_succ, List.setIfInBounds_toArray, List.set_cons_zero, List.set_cons_succ]
                refine wpAnyH_take (i := 11) (v := ?_) rfl (by kernel_rfl) (by kernel_rfl) (by kernel_rfl) (fun _ _ _ h => h) (Or.inl ⟨by rfl, ?_⟩) hHeld ?_
                rotate_left
                · intro w2 hSw
                  clear hSw
                  go_simp
                  all_goals rfl
                try simp only [Act.put, List.getElem_toArray, List.getElem_cons_zero, List.getElem_cons_succ, List.setIfInBounds_toArray, List.set_cons_zero, List.set_cons_succ]
                refine wpAnyH_take (i := 12) (v := ?_) rfl (by kernel_rfl) (by kernel_rfl) (by kernel_rfl) (fun _ _ _ h => h) (Or.inl ⟨by rfl, ?_⟩) hHeld ?_
                rotate_left
                · intro w2 hSw
                  obtain ⟨_, _, hSw⟩ := hSw
                  obtain ⟨z0, z1, z2, z3, z4, z5, z6, z7, z8, z9, z10, z11, z12, z13, z14, z15⟩ := wy_cells hSw
                  clear hSw
                  go_simp
                  all_goals rfl
                try simp only [Act.put, List.getElem_toArray, List.getElem_cons_zero, List.getElem_cons_succ, List.setIfInBounds_toArray, List.set_cons_zero, List.set_cons_succ]
                refine wpAnyH_take (i := 13) (v := ?_) rfl (by kernel_rfl) (by kernel_rfl) (by kernel_rfl) (fun _ _ _ h => h) (Or.inl ⟨by rfl, ?_⟩) hHeld ?_
                rotate_left
                · intro w2 hSw
                  clear hSw
                  go_simp
                  all_goals rfl
                try simp only [Act.put, List.getElem_toArray, List.getElem_cons_zero, List.getElem_cons_succ, List.setIfInBounds_toArray, List.set_cons_zero, List.set_cons_succ]
                refine wpAnyH_take (i := 14) (v := ?_) rfl (by kernel_rfl) (by kernel_rfl) (by kernel_rfl) (fun _ _ _ h => h) (Or.inl ⟨by rfl, ?_⟩) hHeld ?_
                rotate_left
                · intro w2 hSw
                  clear hSw
                  go_simp
                  all_goals rfl
                try simp only [Act.put, List.getElem_toArray, List.getElem_cons_zero, List.getElem_cons_succ, List.setIfInBounds_toArray, List.set_cons_zero, List.set_cons_succ]
                refine wpAnyH_take (i := 15) (v := ?_) rfl (by kernel_rfl) (by kernel_rfl) (by kernel_rfl) (fun _ _ _ h => h) (Or.inl ⟨by rfl, ?_⟩) hHeld ?_
                rotate_left
                · intro w2 hSw
                  clear hSw
                  go_simp
                  all_goals rfl
                try simp only [Act.put, List.getElem_toArray, List.getElem_cons_zero, List.getElem_cons_succ, List.setIfInBounds_toArray, List.set_cons_zero, List.set_cons_succ]
                refine wpAnyH_ready (rs := [8]) (by kernel_rfl) (by simp) ?_
                refine AllReadyH.cons rfl (fun K hK => ?_) AllReadyH.nil
                go_simp
                refine (frameof_c hgU).mono ?_
                rintro e wy ⟨rfl, hwy⟩
                rw [hwy]
                clear hwy wy
                go_simp
                refine hK.out _ _ hHeld (fun hHeld => ?_)
                clear hK K
                try simp only [Act.put, List.setIfInBounds_toArray, List.set_cons_zero, List.set_cons_succ]
                refine wpAnyH_ready (rs := [16]) (by kernel_rfl) (by simp) ?_
                refine AllReadyH.cons rfl (fun K hK => ?_) AllReadyH.nil
                go_simp
                refine (hen.a _ o2d).mono ?_
                rintro e wn ⟨rfl, k3⟩
                have b3 := b2d.kept k3
                go_simp
                refine hK.out _ _ ⟨_, _, b3⟩ (fun hHeld => ?_)
                clear hK K
                try simp only [Act.put, List.setIfInBounds_toArray, List.set_cons_zero, List.set_cons_succ]
                refine wpAnyH_take (i := 17) (v := ?_) rfl (by kernel_rfl) (by kernel_rfl) (by kernel_rfl) (fun _ _ _ h => h) (Or.inl ⟨by rfl, ?_⟩) hHeld ?_
                rotate_left
                · intro w2 hSw
                  clear hSw
                  go_simp
                  all_goals rfl
                try simp only [Act.put, List.getElem_toArray, List.getElem_cons_zero, List.getElem_cons_succ, List.setIfInBounds_toArray, List.set_cons_zero, List.set_cons_succ]
                refine wpAnyH_take (i := 18) (v := ?_) rfl (by kernel_rfl) (by kernel_rfl) (by kernel_rfl) (fun _ _ _ h => h) (Or.inl ⟨by rfl, ?_⟩) hHeld ?_
                rotate_left
                · intro w2 hSw
                  clear hSw
                  go_simp
                  all_goals rfl
                try simp only [Act.put, List.getElem_toArray, List.getElem_cons_zero, List.getElem_cons_succ, List.setIfInBounds_toArray, List.set_cons_zero, List.set_cons_succ]
                refine wpAnyH_take (i := 19) (v := ?_) rfl (by kernel_rfl) (by kernel_rfl) (by kernel_rfl) (fun _ _ _ h => h) (Or.inl ⟨by rfl, ?_⟩) hHeld ?_
                rotate_left
                · intro w2 hSw
                  clear hSw
                  go_simp
                  all_goals rfl
                try simp only [Act.put, List.getElem_toArray, List.getElem_cons_zero, List.getElem_cons_succ, List.setIfInBounds_toArray, List.set_cons_zero, List.set_cons_succ]
                refine wpAnyH_take (i := 20) (v := ?_) rfl (by kernel_rfl) (by kernel_rfl) (by kernel_rfl) (fun _ _ _ h => h) (Or.inl ⟨by rfl, ?_⟩) hHeld ?_
                rotate_left
                · intro w2 hSw
                  clear hSw
                  go_simp
                  all_goals rfl
                try simp only [Act.put, List.getElem_toArray, List.getElem_cons_zero, List.getElem_cons_succ, List.setIfInBounds_toArray, List.set_cons_zero, List.set_cons_succ]
                refine wpAnyH_take (i := 21) (v := ?_) rfl (by kernel_rfl) (by kernel_rfl) (by kernel_rfl) (fun _ _ _ h => h) (Or.inl ⟨by rfl, ?_⟩) hHeld ?_
                rotate_left
                · intro w2 hSw
                  clear hSw
                  go_simp
                  all_goals rfl
                try simp only [Act.put, List.getElem_toArray, List.getElem_cons_zero, List.getElem_cons_succ, List.setIfInBounds_toArray, List.set_cons_zero, List.set_cons_succ]
                refine wpAnyH_done (by kernel_rfl) ?_ _
                have ox3 := o2d.then k3
                clear o2d k3 b2d hHeld hen
                go_wp2_with fail
                refine (pis_c x heU).mono ?_
                rintro r w4 ⟨rfl, k4⟩
                rw [hi]
                have b4 := b3.kept k4
                have ox4 := ox3.then k4
                clear b3 ox3 k4
                go_wp2_with fail
                refine (pleaf_c x heU).mono ?_
                rintro r w5 ⟨rfl, k5⟩
                rw [hl]
                have b5 := b4.kept k5
                have ox5 := ox4.then k5
                clear b4 ox4 k5
                go_wp2_with fail
                rw [Exit.noGoto_ret]
                go_ret
                exact ⟨1, _, _, _, _, rfl, ox5, b5, ⟨by omega, hpU, hgU, fun v => by rw [if_neg (by decide)]; exact rest_n2 h1 hs1 hi1 hl1 sq hl⟩⟩
              · cases hy : mayE (x % 256) k user a.sum a.mxr
                · go_wp2_with fail
                  refine hsec.a.mono ?_
                  rintro e w2 ⟨rfl, o2, b2⟩
                  rw [hw]
                  clear hsec
                  go_upto_region 11 with fail
                  have o2d : Only (fun i => i = b) w w2.drew := (ox.trans o2).drew
                  have b2d := b2.kept ((Only.refl (fun _ => False) w2).drew)
                  clear b2 o2
                  refine wp_region_held_drew (S := fun w2 => ∃ x y, Wy w2 b (.pointer (some ⟨p, 0, none⟩)) a at_ k user x gp bts y) (by kernel_rfl) ⟨_, _, b2d⟩ (fun hHeld => ?_)
                  generalize w2.drew = wd at b2d hHeld o2d ⊢
                  refine wpAnyH_take (i := 0) (v := ?_) rfl (by kernel_rfl) (by kernel_rfl) (by kernel_rfl) (fun _ _ _ h => h) (Or.inl ⟨by rfl, ?_⟩) hHeld ?_
                  rotate_left
                  · intro w2 hSw
                    clear hSw
                    go_simp
                    all_goals rfl
                  try simp only [Act.put, List.getElem_toArray, List.getElem_cons_zero, List.setIfInBounds_toArray, List.set_cons_zero, List.set_cons_succ]
                  refine wpAnyH_take (i := 1) (v := ?_) rfl (by kernel_rfl) (by kernel_rfl) (by kernel_rfl) (fun _ _ _ h => h) (Or.inl ⟨by rfl, ?_⟩) hHeld ?_
                  rotate_left
                  · intro w2 hSw
                    clear hSw
                    go_simp
                    all_goals rfl
                  try simp only [Act.put, List.getElem_toArray, List.getElem_cons_zero, List.getElem_cons_succ, List.setIfInBounds_toArray, List.set_cons_zero, List.set_cons_succ]
                  refine wpAnyH_take (i := 2) (v := ?_) rfl (by kernel_rfl) (by kernel_rfl) (by kernel_rfl) (fun _ _ _ h => h) (Or.inl ⟨by rfl, ?_⟩) hHeld ?_
                  rotate_left
                  · intro w2 hSw
                    clear hSw
                    go_simp
                    all_goals rfl
                  try simp only [Act.put, List.getElem_toArray, List.getElem_cons_zero, List.getElem_cons_succ, List.setIfInBounds_toArray, List.set_cons_zero, List.set_cons_succ]
                  refine wpAnyH_take (i := 3) (v := ?_) rfl (by kernel_rfl) (by kernel_rfl) (by kernel_rfl) (fun _ _ _ h => h) (Or.inl ⟨by rfl, ?_⟩) hHeld ?_
                  rotate_left
                  · intro w2 hSw
                    obtain ⟨_, _, hSw⟩ := hSw
                    obtain ⟨z0, z1, z2, z3, z4, z5, z6, z7, z8, z9, z10, z11, z12, z13, z14, z15⟩ := wy_cells hSw
                    clear hSw
                    go_simp
                    all_goals rfl
                  try simp only [Act.put, List.getElem_toArray, List.getElem_cons_zero, List.getElem_cons_succ, List.setIfInBounds_toArray, List.set_cons_zero, List.set_cons_succ]
                  refine wpAnyH_take (i := 4) (v := ?_) rfl (by kernel_rfl) (by kernel_rfl) (by kernel_rfl) (fun _ _ _ h => h) (Or.inl ⟨by rfl, ?_⟩) hHeld ?_
                  rotate_left
                  · intro w2 hSw
                    clear hSw
                    go_simp
                    all_goals rfl
                  try simp only [Act.put, List.getElem_toArray, List.getElem_cons_zero, List.getElem_cons_succ, List.setIfInBounds_toArray, List.set_cons_zero, List.set_cons_succ]
                  refine wpAnyH_take (i := 5) (v := ?_) rfl (by kernel_rfl) (by kernel_rfl) (by kernel_rfl) (fun _ _ _ h => h) (Or.inl ⟨by rfl, ?_⟩) hHeld ?_
                  rotate_left
                  · intro w2 hSw
                    clear hSw
                    go_simp
                    all_goals rfl
                  try simp only [Act.put, List.getElem_toArray, List.getElem_cons_zero, List.getElem_cons_succ, List.setIfInBounds_toArray, List.set_cons_zero, List.set_cons_succ]
                  refine wpAnyH_take (i := 6) (v := ?_) rfl (by kernel_rfl) (by kernel_rfl) (by kernel_rfl) (fun _ _ _ h => h) (Or.inl ⟨by rfl, ?_⟩) hHeld ?_
                  rotate_left
                  · intro w2 hSw
                    clear hSw
                    go_simp
                    all_goals rfl
                  try simp only [Act.put, List.getElem_toArray, List.getElem_cons_zero, List.getElem_cons_succ, List.setIfInBounds_toArray, List.set_cons_zero, List.set_cons_succ]
                  refine wpAnyH_take (i := 7) (v := ?_) rfl (by kernel_rfl) (by kernel_rfl) (by kernel_rfl) (fun _ _ _ h => h) (Or.inl ⟨by rfl, ?_⟩) hHeld ?_
                  rotate_left
                  · intro w2 hSw
                    obtain ⟨_, _, hSw⟩ := hSw
                    obtain ⟨z0, z1, z2, z3, z4, z5, z6, z7, z8, z9, z10, z11, z12, z13, z14, z15⟩ := wy_cells hSw
                    clear hSw
                    go_simp
                    all_goals rfl
                  try simp only [Act.put, List.getElem_toArray, List.getElem_cons_zero, List.getElem_cons_succ, List.setIfInBounds_toArray, List.set_cons_zero, List.set_cons_succ]
                  refine wpAnyH_take (i := 9) (v := ?_) rfl (by kernel_rfl) (by kernel_rfl) (by kernel_rfl) (fun _ _ _ h => h) (Or.inl ⟨by rfl, ?_⟩) hHeld ?_
                  rotate_left
                  · intro w2 hSw
                    clear hSw
                    go_simp
                    all_goals rfl
                  try simp only [Act.put, List.getElem_toArray, List.getElem_cons_zero, List.getElem_cons_succ, List.setIfInBounds_toArray, List.set_cons_zero, List.set_cons_succ]
                  refine wpAnyH_take (i := 10) (v := ?_) rfl (by kernel_rfl) (by kernel_rfl) (by kernel_rfl) (fun _ _ _ h => h) (Or.inl ⟨by rfl, ?_⟩) hHeld ?_
                  rotate_left
                  · intro w2 hSw
                    clear hSw
                    go_simp
                    all_goals rfl
                  try simp only [Act.put, List.getElem_toArray, List.getElem_cons_zero, List.getElem_cons_succ, List.setIfInBounds_toArray, List.set_cons_zero, List.set_cons_succ]
                  refine wpAnyH_take (i := 11) (v := ?_) rfl (by kernel_rfl) (by kernel_rfl) (by kernel_rfl) (fun _ _ _ h => h) (Or.inl ⟨by rfl, ?_⟩) hHeld ?_
                  rotate_left
                  · intro w2 hSw
                    clear hSw
                    go_simp
                    all_goals rfl
                  try simp only [Act.put, List.getElem_toArray, List.getElem_cons_zero, List.getElem_cons_succ, List.setIfInBounds_toArray, List.set_cons_zero, List.set_cons_succ]
                  refine wpAnyH_take (i := 12) (v := ?_) rfl (by kernel_rfl) (by kernel_rfl) (by kernel_rfl) (fun _ _ _ h => h) (Or.inl ⟨by rfl, ?_⟩) hHeld ?_
                  rotate_left
                  · intro w2 hSw
                    obtain ⟨_, _, hSw⟩ := hSw
                    obtain ⟨z0, z1, z2, z3, z4, z5, z6, z7, z8, z9, z10, z11, z12, z13, z14, z15⟩ := wy_cells hSw
                    clear hSw
                    go_simp
                    all_goals rfl
                  try simp only [Act.put, List.getElem_toArray, List.getElem_cons_zero, List.getElem_cons_succ, List.setIfInBounds_toArray, List.set_cons_zero, List.set_cons_succ]
                  refine wpAnyH_take (i := 13) (v := ?_) rfl (by kernel_rfl) (by kernel_rfl) (by kernel_rfl) (fun _ _ _ h => h) (Or.inl ⟨by rfl, ?_⟩) hHeld ?_
                  rotate_left
                  · intro w2 hSw
                    clear hSw
                    go_simp
                    all_goals rfl
                  try simp only [Act.put, List.getElem_toArray, List.getElem_cons_zero, List.getElem_cons_succ, List.setIfInBounds_toArray, List.set_cons_zero, List.set_cons_succ]
                  refine wpAnyH_take (i := 14) (v := ?_) rfl (by kernel_rfl) (by kernel_rfl) (by kernel_rfl) (fun _ _ _ h => h) (Or.inl ⟨by rfl, ?_⟩) hHeld ?_
                  rotate_left
                  · intro w2 hSw
                    clear hSw
                    go_simp
                    all_goals rfl
                  try simp only [Act.put, List.getElem_toArray, List.getElem_cons_zero, List.getElem_cons_succ, List.setIfInBounds_toArray, List.set_cons_zero, List.set_cons_succ]
                  refine wpAnyH_take (i := 15) (v := ?_) rfl (by kernel_rfl) (by kernel_rfl) (by kernel_rfl) (fun _ _ _ h => h) (Or.inl ⟨by rfl, ?_⟩) hHeld ?_
                  rotate_left
                  · intro w2 hSw
                    clear hSw
                    go_simp
                    all_goals rfl
                  try simp only [Act.put, List.getElem_toArray, List.getElem_cons_zero, List.getElem_cons_succ, List.setIfInBounds_toArray, List.set_cons_zero, List.set_cons_succ]
                  refine wpAnyH_ready (rs := [8]) (by kernel_rfl) (by simp) ?_
                  refine AllReadyH.cons rfl (fun K hK => ?_) AllReadyH.nil
                  go_simp
                  refine (frameof_c hgU).mono ?_
                  rintro e wy ⟨rfl, hwy⟩
                  rw [hwy]
                  clear hwy wy
                  go_simp
                  refine hK.out _ _ hHeld (fun hHeld => ?_)
                  clear hK K
                  try simp only [Act.put, List.setIfInBounds_toArray, List.set_cons_zero, List.set_cons_succ]
                  refine wpAnyH_ready (rs := [16]) (by kernel_rfl) (by simp) ?_
                  refine AllReadyH.cons rfl (fun K hK => ?_) AllReadyH.nil
                  go_simp
                  refine (hen.a _ o2d).mono ?_
                  rintro e wn ⟨rfl, k3⟩
                  have b3 := b2d.kept k3
                  go_simp
                  refine hK.out _ _ ⟨_, _, b3⟩ (fun hHeld => ?_)
                  clear hK K
                  try simp only [Act.put, List.setIfInBounds_toArray, List.set_cons_zero, List.set_cons_succ]
                  refine wpAnyH_take (i := 17) (v := ?_) rfl (by kernel_rfl) (by kernel_rfl) (by kernel_rfl) (fun _ _ _ h => h) (Or.inl ⟨by rfl, ?_⟩) hHeld ?_
                  rotate_left
                  · intro w2 hSw
                    clear hSw
                    go_simp
                    all_goals rfl
                  try simp only [Act.put, List.getElem_toArray, List.getElem_cons_zero, List.getElem_cons_succ, List.setIfInBounds_toArray, List.set_cons_zero, List.set_cons_succ]
                  refine wpAnyH_take (i := 18) (v := ?_) rfl (by kernel_rfl) (by kernel_rfl) (by kernel_rfl) (fun _ _ _ h => h) (Or.inl ⟨by rfl, ?_⟩) hHeld ?_
                  rotate_left
                  · intro w2 hSw
                    clear hSw
                    go_simp
                    all_goals rfl
                  try simp only [Act.put, List.getElem_toArray, List.getElem_cons_zero, List.getElem_cons_succ, List.setIfInBounds_toArray, List.set_cons_zero, List.set_cons_succ]
                  refine wpAnyH_take (i := 19) (v := ?_) rfl (by kernel_rfl) (by kernel_rfl) (by kernel_rfl) (fun _ _ _ h => h) (Or.inl ⟨by rfl, ?_⟩) hHeld ?_
                  rotate_left
                  · intro w2 hSw
                    clear hSw
                    go_simp
                    all_goals rfl
                  try simp only [Act.put, List.getElem_toArray, List.getElem_cons_zero, List.getElem_cons_succ, List.setIfInBounds_toArray, List.set_cons_zero, List.set_cons_succ]
                  refine wpAnyH_take (i := 20) (v := ?_) rfl (by kernel_rfl) (by kernel_rfl) (by kernel_rfl) (fun _ _ _ h => h) (Or.inl ⟨by rfl, ?_⟩) hHeld ?_
                  rotate_left
                  · intro w2 hSw
                    clear hSw
                    go_simp
                    all_goals rfl
                  try simp only [Act.put, List.getElem_toArray, List.getElem_cons_zero, List.getElem_cons_succ, List.setIfInBounds_toArray, List.set_cons_zero, List.set_cons_succ]
                  refine wpAnyH_take (i := 21) (v := ?_) rfl (by kernel_rfl) (by kernel_rfl) (by kernel_rfl) (fun _ _ _ h => h) (Or.inl ⟨by rfl, ?_⟩) hHeld ?_
                  rotate_left
                  · intro w2 hSw
                    clear hSw
                    go_simp
                    all_goals rfl
                  try simp only [Act.put, List.getElem_toArray, List.getElem_cons_zero, List.getElem_cons_succ, List.setIfInBounds_toArray, List.set_cons_zero, List.set_cons_succ]
                  refine wpAnyH_done (by kernel_rfl) ?_ _
                  have ox3 := o2d.then k3
                  clear o2d k3 b2d hHeld hen
                  go_wp2_with fail
                  refine (pis_c x heU).mono ?_
                  rintro r w4 ⟨rfl, k4⟩
                  rw [hi]
                  have b4 := b3.kept k4
                  have ox4 := ox3.then k4
                  clear b3 ox3 k4
                  go_wp2_with fail
                  refine (pleaf_c x heU).mono ?_
                  rintro r w5 ⟨rfl, k5⟩
                  rw [hl]
                  have b5 := b4.kept k5
                  have ox5 := ox4.then k5
                  clear b4 ox4 k5
                  have hT5 := hT.past ox5 hg
                  go_wp2_with fail
                  refine (toleaf_no1 hT5 b5 h0 h1' x hy).mono ?_
                  rintro r w6 ⟨rfl, k6⟩
                  have b6 := b5.kept k6
                  have ox6 := ox5.then k6
                  go_wp2_with fail
                  rw [Exit.noGoto_ret]
                  go_ret
                  exact ⟨1, _, _, _, _, rfl, ox6, b6, ⟨by omega, hpU, hgU, fun v => by rw [if_neg (by decide)]; exact (by rw [rest_l2 h1 hs1 hi1 hl1 sq hl, if_pos hy]; try rfl)⟩⟩
                · go_wp2_with fail
                  refine hsec.a.mono ?_
                  rintro e w2 ⟨rfl, o2, b2⟩
                  rw [hw]
                  clear hsec
                  go_upto_region 11 with fail
                  have o2d : Only (fun i => i = b) w w2.drew := (ox.trans o2).drew
                  have b2d := b2.kept ((Only.refl (fun _ => False) w2).drew)
                  clear b2 o2
                  refine wp_region_held_drew (S := fun w2 => ∃ x y, Wy w2 b (.pointer (some ⟨p, 0, none⟩)) a at_ k user x gp bts y) (by kernel_rfl) ⟨_, _, b2d⟩ (fun hHeld => ?_)
                  generalize w2.drew = wd at b2d hHeld o2d ⊢
                  refine wpAnyH_take (i := 0) (v := ?_) rfl (by kernel_rfl) (by kernel_rfl) (by kernel_rfl) (fun _ _ _ h => h) (Or.inl ⟨by rfl, ?_⟩) hHeld ?_
                  rotate_left
                  · intro w2 hSw
                    clear hSw
                    go_simp
                    all_goals rfl
                  try simp only [Act.put, List.getElem_toArray, List.getElem_cons_zero, List.setIfInBounds_toArray, List.set_cons_zero, List.set_cons_succ]
                  refine wpAnyH_take (i := 1) (v := ?_) rfl (by kernel_rfl) (by kernel_rfl) (by kernel_rfl) (fun _ _ _ h => h) (Or.inl ⟨by rfl, ?_⟩) hHeld ?_
                  rotate_left
                  · intro w2 hSw
                    clear hSw
                    go_simp
                    all_goals rfl
                  try simp only [Act.put, List.getElem_toArray, List.getElem_cons_zero, List.getElem_cons_succ, List.setIfInBounds_toArray, List.set_cons_zero, List.set_cons_succ]
                  refine wpAnyH_take (i := 2) (v := ?_) rfl (by kernel_rfl) (by kernel_rfl) (by kernel_rfl) (fun _ _ _ h => h) (Or.inl ⟨by rfl, ?_⟩) hHeld ?_
                  rotate_left
                  · intro w2 hSw
                    clear hSw
                    go_simp
                    all_goals rfl
                  try simp only [Act.put, List.getElem_toArray, List.getElem_cons_zero, List.getElem_cons_succ, List.setIfInBounds_toArray, List.set_cons_zero, List.set_cons_succ]
                  refine wpAnyH_take (i := 3) (v := ?_) rfl (by kernel_rfl) (by kernel_rfl) (by kernel_rfl) (fun _ _ _ h => h) (Or.inl ⟨by rfl, ?_⟩) hHeld ?_
                  rotate_left
                  · intro w2 hSw
                    obtain ⟨_, _, hSw⟩ := hSw
                    obtain ⟨z0, z1, z2, z3, z4, z5, z6, z7, z8, z9, z10, z11, z12, z13, z14, z15⟩ := wy_cells hSw
                    clear hSw
                    go_simp
                    all_goals rfl
                  try simp only [Act.put, List.getElem_toArray, List.getElem_cons_zero, List.getElem_cons_succ, List.setIfInBounds_toArray, List.set_cons_zero, List.set_cons_succ]
                  refine wpAnyH_take (i := 4) (v := ?_) rfl (by kernel_rfl) (by kernel_rfl) (by kernel_rfl) (fun _ _ _ h => h) (Or.inl ⟨by rfl, ?_⟩) hHeld ?_
                  rotate_left
                  · intro w2 hSw
                    clear hSw
                    go_simp
                    all_goals rfl
                  try simp only [Act.put, List.getElem_toArray, List.getElem_cons_zero, List.getElem_cons_succ, List.setIfInBounds_toArray, List.set_cons_zero, List.set_cons_succ]
                  refine wpAnyH_take (i := 5) (v := ?_) rfl (by kernel_rfl) (by kernel_rfl) (by kernel_rfl) (fun _ _ _ h => h) (Or.inl ⟨by rfl, ?_⟩) hHeld ?_
                  rotate_left
                  · intro w2 hSw
                    clear hSw
                    go_simp
                    all_goals rfl
                  try simp only [Act.put, List.getElem_toArray, List.getElem_cons_zero, List.getElem_cons_succ, List.setIfInBounds_toArray, List.set_cons_zero, List.set_cons_succ]
                  refine wpAnyH_take (i := 6) (v := ?_) rfl (by kernel_rfl) (by kernel_rfl) (by kernel_rfl) (fun _ _ _ h => h) (Or.inl ⟨by rfl, ?_⟩) hHeld ?_
                  rotate_left
                  · intro w2 hSw
                    clear hSw
                    go_simp
                    all_goals rfl
                  try simp only [Act.put, List.getElem_toArray, List.getElem_cons_zero, List.getElem_cons_succ, List.setIfInBounds_toArray, List.set_cons_zero, List.set_cons_succ]
                  refine wpAnyH_take (i := 7) (v := ?_) rfl (by kernel_rfl) (by kernel_rfl) (by kernel_rfl) (fun _ _ _ h => h) (Or.inl ⟨by rfl, ?_⟩) hHeld ?_
                  rotate_left
                  · intro w2 hSw
                    obtain ⟨_, _, hSw⟩ := hSw
                    obtain ⟨z0, z1, z2, z3, z4, z5, z6, z7, z8, z9, z10, z11, z12, z13, z14, z15⟩ := wy_cells hSw
                    clear hSw
                    go_simp
                    all_goals rfl
                  try simp only [Act.put, List.getElem_toArray, List.getElem_cons_zero, List.getElem_cons_succ, List.setIfInBounds_toArray, List.set_cons_zero, List.set_cons_succ]
                  refine wpAnyH_take (i := 9) (v := ?_) rfl (by kernel_rfl) (by kernel_rfl) (by kernel_rfl) (fun _ _ _ h => h) (Or.inl ⟨by rfl, ?_⟩) hHeld ?_
                  rotate_left
                  · intro w2 hSw
                    clear hSw
                    go_simp
                    all_goals rfl
                  try simp only [Act.put, List.getElem_toArray, List.getElem_cons_zero, List.getElem_cons_succ, List.setIfInBounds_toArray, List.set_cons_zero, List.set_cons_succ]
                  refine wpAnyH_take (i := 10) (v := ?_) rfl (by kernel_rfl) (by kernel_rfl) (by kernel_rfl) (fun _ _ _ h => h) (Or.inl ⟨by rfl, ?_⟩) hHeld ?_
                  rotate_left
                  · intro w2 hSw
                    clear hSw
                    go_simp
                    all_goals rfl
                  try simp only [Act.put, List.getElem_toArray, List.getElem_cons_zero, List.getElem_cons_succ, List.setIfInBounds_toArray, List.set_cons_zero, List.set_cons_succ]
                  refine wpAnyH_take (i := 11) (v := ?_) rfl (by kernel_rfl) (by kernel_rfl) (by kernel_rfl) (fun _ _ _ h => h) (Or.inl ⟨by rfl, ?_⟩) hHeld ?_
                  rotate_left
                  · intro w2 hSw
                    clear hSw
                    go_simp
                    all_goals rfl
                  try simp only [Act.put, List.getElem_toArray, List.getElem_cons_zero, List.getElem_cons_succ, List.setIfInBounds_toArray, List.set_cons_zero, List.set_cons_succ]
                  refine wpAnyH_take (i := 12) (v := ?_) rfl (by kernel_rfl) (by kernel_rfl) (by kernel_rfl) (fun _ _ _ h => h) (Or.inl ⟨by rfl, ?_⟩) hHeld ?_
                  rotate_left
                  · intro w2 hSw
                    obtain ⟨_, _, hSw⟩ := hSw
                    obtain ⟨z0, z1, z2, z3, z4, z5, z6, z7, z8, z9, z10, z11, z12, z13, z14, z15⟩ := wy_cells hSw
                    clear hSw
                    go_simp
                    all_goals rfl
                  try simp only [Act.put, List.getElem_toArray, List.getElem_cons_zero, List.getElem_cons_succ, List.setIfInBounds_toArray, List.set_cons_zero, List.set_cons_succ]
                  refine wpAnyH_take (i := 13) (v := ?_) rfl (by kernel_rfl) (by kernel_rfl) (by kernel_rfl) (fun _ _ _ h => h) (Or.inl ⟨by rfl, ?_⟩) hHeld ?_
                  rotate_left
                  · intro w2 hSw
                    clear hSw
                    go_simp
                    all_goals rfl
                  try simp only [Act.put, List.getElem_toArray, List.getElem_cons_zero, List.getElem_cons_succ, List.setIfInBounds_toArray, List.set_cons_zero, List.set_cons_succ]
                  refine wpAnyH_take (i := 14) (v := ?_) rfl (by kernel_rfl) (by kernel_rfl) (by kernel_rfl) (fun _ _ _ h => h) (Or.inl ⟨by rfl, ?_⟩) hHeld ?_
                  rotate_left
                  · intro w2 hSw
                    clear hSw
                    go_simp
                    all_goals rfl
                  try simp only [Act.put, List.getElem_toArray, List.getElem_cons_zero, List.getElem_cons_succ, List.setIfInBounds_toArray, List.set_cons_zero, List.set_cons_succ]
                  refine wpAnyH_take (i := 15) (v := ?_) rfl (by kernel_rfl) (by kernel_rfl) (by kernel_rfl) (fun _ _ _ h => h) (Or.inl ⟨by rfl, ?_⟩) hHeld ?_
                  rotate_left
                  · intro w2 hSw
                    clear hSw
                    go_simp
                    all_goals rfl
                  try simp only [Act.put, List.getElem_toArray, List.getElem_cons_zero, List.getElem_cons_succ, List.setIfInBounds_toArray, List.set_cons_zero, List.set_cons_succ]
                  refine wpAnyH_ready (rs := [8]) (by kernel_rfl) (by simp) ?_
                  refine AllReadyH.cons rfl (fun K hK => ?_) AllReadyH.nil
                  go_simp
                  refine (frameof_c hgU).mono ?_
                  rintro e wy ⟨rfl, hwy⟩
                  rw [hwy]
                  clear hwy wy
                  go_simp
                  refine hK.out _ _ hHeld (fun hHeld => ?_)
                  clear hK K
                  try simp only [Act.put, List.setIfInBounds_toArray, List.set_cons_zero, List.set_cons_succ]
                  refine wpAnyH_ready (rs := [16]) (by kernel_rfl) (by simp) ?_
                  refine AllReadyH.cons rfl (fun K hK => ?_) AllReadyH.nil
                  go_simp
                  refine (hen.a _ o2d).mono ?_
                  rintro e wn ⟨rfl, k3⟩
                  have b3 := b2d.kept k3
                  go_simp
                  refine hK.out _ _ ⟨_, _, b3⟩ (fun hHeld => ?_)
                  clear hK K
                  try simp only [Act.put, List.setIfInBounds_toArray, List.set_cons_zero, List.set_cons_succ]
                  refine wpAnyH_take (i := 17) (v := ?_) rfl (by kernel_rfl) (by kernel_rfl) (by kernel_rfl) (fun _ _ _ h => h) (Or.inl ⟨by rfl, ?_⟩) hHeld ?_
                  rotate_left
                  · intro w2 hSw
                    clear hSw
                    go_simp
                    all_goals rfl
                  try simp only [Act.put, List.getElem_toArray, List.getElem_cons_zero, List.getElem_cons_succ, List.setIfInBounds_toArray, List.set_cons_zero, List.set_cons_succ]
                  refine wpAnyH_take (i := 18) (v := ?_) rfl (by kernel_rfl) (by kernel_rfl) (by kernel_rfl) (fun _ _ _ h => h) (Or.inl ⟨by rfl, ?_⟩) hHeld ?_
                  rotate_left
                  · intro w2 hSw
                    clear hSw
                    go_simp
                    all_goals rfl
                  try simp only [Act.put, List.getElem_toArray, List.getElem_cons_zero, List.getElem_cons_succ, List.setIfInBounds_toArray, List.set_cons_zero, List.set_cons_succ]
                  refine wpAnyH_take (i := 19) (v := ?_) rfl (by kernel_rfl) (by kernel_rfl) (by kernel_rfl) (fun _ _ _ h => h) (Or.inl ⟨by rfl, ?_⟩) hHeld ?_
                  rotate_left
                  · intro w2 hSw
                    clear hSw
                    go_simp
                    all_goals rfl
                  try simp only [Act.put, List.getElem_toArray, List.getElem_cons_zero, List.getElem_cons_succ, List.setIfInBounds_toArray, List.set_cons_zero, List.set_cons_succ]
                  refine wpAnyH_take (i := 20) (v := ?_) rfl (by kernel_rfl) (by kernel_rfl) (by kernel_rfl) (fun _ _ _ h => h) (Or.inl ⟨by rfl, ?_⟩) hHeld ?_
                  rotate_left
                  · intro w2 hSw
                    clear hSw
                    go_simp
                    all_goals rfl
                  try simp only [Act.put, List.getElem_toArray, List.getElem_cons_zero, List.getElem_cons_succ, List.setIfInBounds_toArray, List.set_cons_zero, List.set_cons_succ]
                  refine wpAnyH_take (i := 21) (v := ?_) rfl (by kernel_rfl) (by kernel_rfl) (by kernel_rfl) (fun _ _ _ h => h) (Or.inl ⟨by rfl, ?_⟩) hHeld ?_
                  rotate_left
                  · intro w2 hSw
                    clear hSw
                    go_simp
                    all_goals rfl
                  try simp only [Act.put, List.getElem_toArray, List.getElem_cons_zero, List.getElem_cons_succ, List.setIfInBounds_toArray, List.set_cons_zero, List.set_cons_succ]
                  refine wpAnyH_done (by kernel_rfl) ?_ _
                  have ox3 := o2d.then k3
                  clear o2d k3 b2d hHeld hen
                  go_wp2_with fail
                  refine (pis_c x heU).mono ?_
                  rintro r w4 ⟨rfl, k4⟩
                  rw [hi]
                  have b4 := b3.kept k4
                  have ox4 := ox3.then k4
                  clear b3 ox3 k4
                  go_wp2_with fail
                  refine (pleaf_c x heU).mono ?_
                  rintro r w5 ⟨rfl, k5⟩
                  rw [hl]
                  have b5 := b4.kept k5
                  have ox5 := ox4.then k5
                  clear b4 ox4 k5
                  have hT5 := hT.past ox5 hg
                  have hfb := fr_bd x
                  go_wp2_with fail
                  refine (toleaf_yes1 hT5 b5 h0 h1' x hy).mono ?_
                  rintro r w6 ⟨rfl, o6, b6⟩
                  go_wp2_with fail
                  exact ⟨⟨0, _, _, _, _, rfl, .inr (.inr ⟨rfl, by omega, by omega, fun v => by rw [rest_l2 h1 hs1 hi1 hl1 sq hl, if_neg (by rw [hy]; decide)]; try rfl⟩), b6, ox5.trans o6⟩, by simp [intOf]⟩
        · have hw : wrongI 1 = 2 := rfl
          have sq := st1 rfl
          clear st0 st1 st2
          go_wp2_with fail
          refine hsec.a.mono ?_
          rintro e w2 ⟨rfl, o2, b2⟩
          rw [hw]
          clear hsec
          go_wp2_with fail
          rw [Exit.noGoto_ret]
          go_ret
          exact ⟨2, _, _, _, _, rfl, ox.trans o2, b2, ⟨by omega, hpU, hgU, fun v => by rw [if_neg (by decide)]; exact rest_s2 h1 hs1 hi1 hl1 sq⟩⟩
        · have hw : wrongI 2 = 3 := rfl
          have sq := st2 rfl
          clear st0 st1 st2
          go_wp2_with fail
          refine hsec.a.mono ?_
          rintro e w2 ⟨rfl, o2, b2⟩
          rw [hw]
          clear hsec
          go_wp2_with fail
          rw [Exit.noGoto_ret]
          go_ret
          exact ⟨3, _, _, _, _, rfl, ox.trans o2, b2, ⟨by omega, hpU, hgU, fun v => by rw [if_neg (by decide)]; exact rest_s2 h1 hs1 hi1 hl1 sq⟩⟩
      · have hgs := gst_bd hm.byte a place k false p0
        have hed := fun v => end_at (a := a) (at_ := at_) (k := k) (v := v) (b := bts) hm.byte p0
        have hpU : U place := by unfold U; omega
        have hsec : GsAll wr b p a at_ k user place lies bts host false (gstS B a place k false) := ⟨gosecond_end (hT.past ox hg) (hm.carry ox hp.symm hq.symm) hb hpU⟩
        clear hb
        generalize gstS B a place k false = g at *
        obtain ⟨gp, gb, gc⟩ := g
        simp only at hgs hed
        obtain ⟨g0, g1, hcc⟩ := hgs
        have hgU : U gp := by unfold U; omega
        rcases hcc with rfl | rfl | rfl
        · have hw : wrongI 0 = 0 := rfl
          go_wp2_with fail
          refine hsec.a.mono ?_
          rintro e w2 ⟨rfl, o2, b2⟩
          rw [hw]
          clear hsec
          go_wp2_with fail
          rw [Exit.noGoto_ret]
          go_ret
          exact ⟨0, _, _, _, _, rfl, ox.trans o2, b2, ⟨by omega, hpU, hgU, fun v => (hr v).trans (hed v)⟩⟩
        · have hw : wrongI 1 = 2 := rfl
          go_wp2_with fail
          refine hsec.a.mono ?_
          rintro e w2 ⟨rfl, o2, b2⟩
          rw [hw]
          clear hsec
          go_wp2_with fail
          rw [Exit.noGoto_ret]
          go_ret
          exact ⟨2, _, _, _, _, rfl, ox.trans o2, b2, ⟨by omega, hpU, hgU, fun v => (hr v).trans (hed v)⟩⟩
        · have hw : wrongI 2 = 3 := rfl
          go_wp2_with fail
          refine hsec.a.mono ?_
          rintro e w2 ⟨rfl, o2, b2⟩
          rw [hw]
          clear hsec
          go_wp2_with fail
          rw [Exit.noGoto_ret]
          go_ret
          exact ⟨3, _, _, _, _, rfl, ox.trans o2, b2, ⟨by omega, hpU, hgU, fun v => (hr v).trans (hed v)⟩⟩
end
end Go.Proofs.YtpplclenokfpeaaDoor
