/-
  What statement BusPlays asks: every row of accesses, inputs, times, by the document's bus beside it; walked for every row.
-/
import Derived.Test.YtpnlicklfemjeaaBPlay
import Derived.Deep.CutRange
import Derived.Deep.CutBlock
import Derived.Deep.RegionHeld3
namespace Go.Proofs.Ytpnlicklfemjeaa
open Go.RowKit
theorem ref_out {W w : World} {h1 h2 b r sb lo hi c : Nat} {x : Stp} {M R N : BusM} (h : Trio W w h1 h2 b r sb lo hi c x M R N) {j : Nat} (hj : j < 4) : w.cell? ⟨r, 11 + j, none⟩ = some (.string (bs (R.P j).out)) := by
  obtain ⟨p, q, hb, _, _⟩ := h.r.ex
  exact hb.cout hj
theorem out_at (M : BusM) {j : Nat} (hj : j < 4) : outS M (j : Int) = bs (M.P j).out := by
  unfold outS; rw [if_pos (by omega), Int.toNat_natCast]
set_option maxRecDepth 100000 in
set_option maxHeartbeats 4000000 in
theorem bplay_short (L : List Stp) (hL : L.length ≤ 40) (hat : ∀ x ∈ L, U x.pl ∧ U x.v) (b0 o cap : Nat) (W : World) (hC : LiesS W b0 o L) :
    Calls Try.prog 3 #[.slice (some ⟨b0, o, none⟩) L.length cap] W fun e w' => e = .returned (.bool true) ∧ Kept W w' := by
  have hl : ¬ (40 : Int) < (L.length : Int) := by omega
  go_enter Try.func3, Try.ntmps3
  go_wp2_with fail
  refine (known7_any _).mono ?_
  rintro e w1 ⟨rfl, k1⟩
  go_wp2_with fail
  refine (bnew_in _).mono ?_
  rintro e w2 ⟨b, rfl, p2, k2⟩
  go_wp2_with fail
  refine (rnew_any _).mono ?_
  rintro e w3 ⟨pr, qr, rfl, m3, hpr, hqr, k3⟩
  go_wp2_with fail
  refine (rbnew_any _ pr qr _ m3).mono ?_
  rintro e w4 ⟨r, rfl, r4, hr4, k4⟩
  have t4 : Duo W w4 w2.heap.size w4.heap.size b r (.new (fun _ => 0)) := by
    have z1 := k1.size
    have z2 := k2.size
    have z3 := k3.size
    have z4 := k4.size
    have l4 := r4.lt
    obtain ⟨⟨p, q, hb, hp, hq⟩, hr⟩ := p2
    have hr' := hr.1
    have hp' := hp.1
    have hq' := hq.1
    have k34 := k3.then k4
    exact ⟨⟨⟨p, q, hb.kept k34, ⟨by omega, hp.2⟩, ⟨by omega, hq.2⟩⟩, ⟨by omega, hr.2⟩⟩, ⟨⟨pr, qr, r4, ⟨by omega, by omega⟩, ⟨by omega, by omega⟩⟩, ⟨by omega, by omega⟩⟩, (k1.then k2).then k34, by omega, by omega, Nat.le_refl _⟩
  obtain ⟨h1, eh1⟩ : ∃ h1, h1 = w2.heap.size := ⟨_, rfl⟩
  obtain ⟨h2, eh2⟩ : ∃ h2, h2 = w4.heap.size := ⟨_, rfl⟩
  rw [← eh1, ← eh2] at t4
  clear k1 k2 k3 k4 m3 r4 p2 hpr hqr hr4 eh1 eh2
  go_wp2
  go_loopw [5] (fun i wr => ∃ (k : Nat) (M : BusM), k ≤ L.length ∧ i = .int .i64 (k : Int) ∧ Duo W wr h1 h2 b r M) (fun i _ => L.length - (intOf i).toNat)
  case atStart => exact ⟨0, _, Nat.zero_le _, rfl, t4⟩
  case round =>
    obtain ⟨k, M, hk, rfl, ht⟩ := hrel
    clear t4
    by_cases hlt : k < L.length
    · obtain ⟨x, hx⟩ : ∃ x, L[k]? = some x := ⟨_, List.getElem?_eq_getElem (by omega)⟩
      have hlt' : (k : Int) < (L.length : Int) := by omega
      have hk0 : (0 : Int) ≤ (k : Int) := by omega
      obtain ⟨ha, hv⟩ := hat x (List.mem_of_getElem? hx)
      obtain ⟨c0, c1, c2, c3, c4⟩ := (hC.kept ht.k) k x hx
      by_cases hbig : 100 < (x.b.size : Int)
      · go_wp2
        go_ret
        exact ⟨rfl, ht.k.alloc _⟩
      · have hbs : x.b.size ≤ 100 := by omega
        have hl3 := ht.l3
        have p0 := ha.1
        have p9 := ha.2
        go_wp2_with fail
        refine (t_copy (ht.kept ((Only.refl _ wr).alloc _)) (five_new wr x _) hl3).mono ?_
        rintro e w5 ⟨lo, hi, c, rfl, s5⟩
        obtain ⟨sb, esb⟩ : ∃ sb, sb = wr.heap.size := ⟨_, rfl⟩
        rw [← esb] at s5 ⊢
        clear ht c0 c1 c2 c3 c4 hC hat hl3 esb
        obtain ⟨e0, e1, e2, e3, e4⟩ := s5.s
        go_upto_block 2 with fail
        go_cut [8, 9, 10, 11] from 21 to 165 (fun _ _ _ _ wc => ∃ M', Trio W wc h1 h2 b r sb lo hi c x M' M' M)
        case first =>
          by_cases hw0 : x.what = 0
          · have hn0 : (x.what == 0) = true := by rw [hw0]; rfl
            go_wp2_with fail
            refine (t_read s5 _ _ ha).mono ?_
            rintro e w6 ⟨rfl, s6⟩
            obtain ⟨f0, f1, f2, f3, f4⟩ := s6.s
            have hvv : (rdV M x.pl x.n == rdV M x.pl x.n) = true := beq_self_eq_true _
            have hbb : (rdB x.pl x.n == rdB x.pl x.n) = true := beq_self_eq_true _
            clear s5 e0 e1 e2 e3 e4
            go_wp2_with fail
            refine (t_rread s6 _ _ ha).mono ?_
            rintro e w7 ⟨rfl, s7⟩
            go_wp2_with fail
            go_meet
            case rel => exact ⟨_, s7⟩
          · have hn0 : (x.what == 0) = false := beq_eq_false_iff_ne.2 hw0
            by_cases hw1 : x.what = 1
            · have hn1 : (x.what == 1) = true := by rw [hw1]; rfl
              go_wp2_with fail
              refine (t_read s5 _ _ ha).mono ?_
              rintro e w6 ⟨rfl, s6⟩
              obtain ⟨f0, f1, f2, f3, f4⟩ := s6.s
              have hvv : (rdV M x.pl x.n == rdV M x.pl x.n) = true := beq_self_eq_true _
              have hbb : (rdB x.pl x.n == rdB x.pl x.n) = true := beq_self_eq_true _
              clear s5 e0 e1 e2 e3 e4
              go_wp2_with fail
              refine (t_rread s6 _ _ ha).mono ?_
              rintro e w7 ⟨rfl, s7⟩
              go_wp2_with fail
              go_meet
              case rel => exact ⟨_, s7⟩
            · have hn1 : (x.what == 1) = false := beq_eq_false_iff_ne.2 hw1
              by_cases hw2 : x.what = 2
              · have hn2 : (x.what == 2) = true := by rw [hw2]; rfl
                go_wp2
                have s5d := s5.kept ((Only.refl _ w5).drew)
                refine wp_region_held_drew (S := (fun w2 => (∃ M1 R1, Trio W w2 h1 h2 b r sb lo hi c x M1 R1 M) ∧ w2.cell? ⟨sb, 1, none⟩ = some (.int .i64 x.n) ∧ w2.cell? ⟨sb, 2, none⟩ = some (.int .u64 x.pl) ∧ w2.cell? ⟨sb, 3, none⟩ = some (.int .u64 x.v))) (by kernel_rfl) ⟨⟨_, _, s5d⟩, s5d.s.c1, s5d.s.c2, s5d.s.c3⟩ (fun hHeld => ?_)
                refine wpAnyH_take (i := 0) (v := ?_) rfl (by kernel_rfl) (by kernel_rfl) (by kernel_rfl) (fun _ _ _ h => h) (Or.inl ⟨by rfl, ?_⟩) hHeld ?_
                rotate_left
                · intro w hSw
                  obtain ⟨_, k1, k2, k3⟩ := hSw
                  go_simp
                  all_goals rfl
                simp only [Act.put, List.getElem_toArray, List.getElem_cons_zero, List.setIfInBounds_toArray, List.set_cons_zero, List.set_cons_succ]
                refine wpAnyH_take (i := 1) (v := ?_) rfl (by kernel_rfl) (by kernel_rfl) (by kernel_rfl) (fun _ _ _ h => h) (Or.inl ⟨by rfl, ?_⟩) hHeld ?_
                rotate_left
                · intro w hSw
                  obtain ⟨_, k1, k2, k3⟩ := hSw
                  go_simp
                  all_goals rfl
                simp only [Act.put, List.getElem_toArray, List.getElem_cons_zero, List.getElem_cons_succ, List.setIfInBounds_toArray, List.set_cons_zero, List.set_cons_succ]
                refine wpAnyH_take (i := 2) (v := ?_) rfl (by kernel_rfl) (by kernel_rfl) (by kernel_rfl) (fun _ _ _ h => h) (Or.inl ⟨by rfl, ?_⟩) hHeld ?_
                rotate_left
                · intro w hSw
                  obtain ⟨_, k1, k2, k3⟩ := hSw
                  go_simp
                  all_goals rfl
                simp only [Act.put, List.getElem_toArray, List.getElem_cons_zero, List.getElem_cons_succ, List.setIfInBounds_toArray, List.set_cons_zero, List.set_cons_succ]
                refine wpAnyH_take (i := 3) (v := ?_) rfl (by kernel_rfl) (by kernel_rfl) (by kernel_rfl) (fun _ _ _ h => h) (Or.inl ⟨by rfl, ?_⟩) hHeld ?_
                rotate_left
                · intro w hSw
                  obtain ⟨_, k1, k2, k3⟩ := hSw
                  go_simp
                  all_goals rfl
                simp only [Act.put, List.getElem_toArray, List.getElem_cons_zero, List.getElem_cons_succ, List.setIfInBounds_toArray, List.set_cons_zero, List.set_cons_succ]
                refine wpAnyH_take (i := 4) (v := ?_) rfl (by kernel_rfl) (by kernel_rfl) (by kernel_rfl) (fun _ _ _ h => h) (Or.inl ⟨by rfl, ?_⟩) hHeld ?_
                rotate_left
                · intro w hSw
                  obtain ⟨_, k1, k2, k3⟩ := hSw
                  go_simp
                  all_goals rfl
                simp only [Act.put, List.getElem_toArray, List.getElem_cons_zero, List.getElem_cons_succ, List.setIfInBounds_toArray, List.set_cons_zero, List.set_cons_succ]
                refine wpAnyH_take (i := 5) (v := ?_) rfl (by kernel_rfl) (by kernel_rfl) (by kernel_rfl) (fun _ _ _ h => h) (Or.inl ⟨by rfl, ?_⟩) hHeld ?_
                rotate_left
                · intro w hSw
                  obtain ⟨_, k1, k2, k3⟩ := hSw
                  go_simp
                  all_goals rfl
                simp only [Act.put, List.getElem_toArray, List.getElem_cons_zero, List.getElem_cons_succ, List.setIfInBounds_toArray, List.set_cons_zero, List.set_cons_succ]
                refine wpAnyH_take (i := 6) (v := ?_) rfl (by kernel_rfl) (by kernel_rfl) (by kernel_rfl) (fun _ _ _ h => h) (Or.inl ⟨by rfl, ?_⟩) hHeld ?_
                rotate_left
                · intro w hSw
                  obtain ⟨_, k1, k2, k3⟩ := hSw
                  go_simp
                  all_goals rfl
                simp only [Act.put, List.getElem_toArray, List.getElem_cons_zero, List.getElem_cons_succ, List.setIfInBounds_toArray, List.set_cons_zero, List.set_cons_succ]
                refine wpAnyH_take (i := 8) (v := ?_) rfl (by kernel_rfl) (by kernel_rfl) (by kernel_rfl) (fun _ _ _ h => h) (Or.inl ⟨by rfl, ?_⟩) hHeld ?_
                rotate_left
                · intro w hSw
                  obtain ⟨_, k1, k2, k3⟩ := hSw
                  go_simp
                  all_goals rfl
                simp only [Act.put, List.getElem_toArray, List.getElem_cons_zero, List.getElem_cons_succ, List.setIfInBounds_toArray, List.set_cons_zero, List.set_cons_succ]
                refine wpAnyH_take (i := 9) (v := ?_) rfl (by kernel_rfl) (by kernel_rfl) (by kernel_rfl) (fun _ _ _ h => h) (Or.inl ⟨by rfl, ?_⟩) hHeld ?_
                rotate_left
                · intro w hSw
                  obtain ⟨_, k1, k2, k3⟩ := hSw
                  go_simp
                  all_goals rfl
                simp only [Act.put, List.getElem_toArray, List.getElem_cons_zero, List.getElem_cons_succ, List.setIfInBounds_toArray, List.set_cons_zero, List.set_cons_succ]
                refine wpAnyH_take (i := 10) (v := ?_) rfl (by kernel_rfl) (by kernel_rfl) (by kernel_rfl) (fun _ _ _ h => h) (Or.inl ⟨by rfl, ?_⟩) hHeld ?_
                rotate_left
                · intro w hSw
                  obtain ⟨_, k1, k2, k3⟩ := hSw
                  go_simp
                  all_goals rfl
                simp only [Act.put, List.getElem_toArray, List.getElem_cons_zero, List.getElem_cons_succ, List.setIfInBounds_toArray, List.set_cons_zero, List.set_cons_succ]
                refine wpAnyH_take (i := 11) (v := ?_) rfl (by kernel_rfl) (by kernel_rfl) (by kernel_rfl) (fun _ _ _ h => h) (Or.inl ⟨by rfl, ?_⟩) hHeld ?_
                rotate_left
                · intro w hSw
                  obtain ⟨_, k1, k2, k3⟩ := hSw
                  go_simp
                  all_goals rfl
                simp only [Act.put, List.getElem_toArray, List.getElem_cons_zero, List.getElem_cons_succ, List.setIfInBounds_toArray, List.set_cons_zero, List.set_cons_succ]
                refine wpAnyH_take (i := 12) (v := ?_) rfl (by kernel_rfl) (by kernel_rfl) (by kernel_rfl) (fun _ _ _ h => h) (Or.inl ⟨by rfl, ?_⟩) hHeld ?_
                rotate_left
                · intro w hSw
                  obtain ⟨_, k1, k2, k3⟩ := hSw
                  go_simp
                  all_goals rfl
                simp only [Act.put, List.getElem_toArray, List.getElem_cons_zero, List.getElem_cons_succ, List.setIfInBounds_toArray, List.set_cons_zero, List.set_cons_succ]
                refine wpAnyH_take (i := 13) (v := ?_) rfl (by kernel_rfl) (by kernel_rfl) (by kernel_rfl) (fun _ _ _ h => h) (Or.inl ⟨by rfl, ?_⟩) hHeld ?_
                rotate_left
                · intro w hSw
                  obtain ⟨_, k1, k2, k3⟩ := hSw
                  go_simp
                  all_goals rfl
                simp only [Act.put, List.getElem_toArray, List.getElem_cons_zero, List.getElem_cons_succ, List.setIfInBounds_toArray, List.set_cons_zero, List.set_cons_succ]
                refine wpAnyH_take (i := 14) (v := ?_) rfl (by kernel_rfl) (by kernel_rfl) (by kernel_rfl) (fun _ _ _ h => h) (Or.inl ⟨by rfl, ?_⟩) hHeld ?_
                rotate_left
                · intro w hSw
                  obtain ⟨_, k1, k2, k3⟩ := hSw
                  go_simp
                  all_goals rfl
                simp only [Act.put, List.getElem_toArray, List.getElem_cons_zero, List.getElem_cons_succ, List.setIfInBounds_toArray, List.set_cons_zero, List.set_cons_succ]
                refine wpAnyH_ready (rs := [7]) (by kernel_rfl) (by simp) ?_
                refine AllReadyH.cons rfl (fun K hK => ?_) AllReadyH.nil
                go_simp
                refine (t_write s5d _ _ _ ha).mono ?_
                rintro e w6 ⟨rfl, s6⟩
                go_simp
                refine hK.out _ _ ⟨⟨_, _, s6⟩, s6.s.c1, s6.s.c2, s6.s.c3⟩ (fun hHeld => ?_)
                clear hK K
                try simp only [Act.put, List.setIfInBounds_toArray, List.set_cons_zero, List.set_cons_succ]
                refine wpAnyH_ready (rs := [15]) (by kernel_rfl) (by simp) ?_
                refine AllReadyH.cons rfl (fun K hK => ?_) AllReadyH.nil
                go_simp
                refine (t_rwrite s6 _ _ _ ha hv).mono ?_
                rintro e w7 ⟨rfl, s7⟩
                go_simp
                refine hK.out _ _ ⟨⟨_, _, s7⟩, s7.s.c1, s7.s.c2, s7.s.c3⟩ (fun hHeld => ?_)
                clear hK K
                try simp only [Act.put, List.setIfInBounds_toArray, List.set_cons_zero, List.set_cons_succ]
                refine wpAnyH_take (i := 16) (v := ?_) rfl (by kernel_rfl) (by kernel_rfl) (by kernel_rfl) (fun _ _ _ h => h) (Or.inl ⟨by rfl, ?_⟩) hHeld ?_
                rotate_left
                · intro w hSw
                  obtain ⟨_, k1, k2, k3⟩ := hSw
                  go_simp
                  all_goals rfl
                simp only [Act.put, List.getElem_toArray, List.getElem_cons_zero, List.getElem_cons_succ, List.setIfInBounds_toArray, List.set_cons_zero, List.set_cons_succ]
                refine wpAnyH_done (by kernel_rfl) ?_ _
                go_wp2_with fail
                go_meet
                case rel => exact ⟨_, s7⟩
              · have hn2 : (x.what == 2) = false := beq_eq_false_iff_ne.2 hw2
                by_cases hw3 : x.what = 3
                · have hn3 : (x.what == 3) = true := by rw [hw3]; rfl
                  go_wp2
                  have s5d := s5.kept ((Only.refl _ w5).drew)
                  refine wp_region_held_drew (S := (fun w2 => (∃ M1 R1, Trio W w2 h1 h2 b r sb lo hi c x M1 R1 M) ∧ w2.cell? ⟨sb, 1, none⟩ = some (.int .i64 x.n) ∧ w2.cell? ⟨sb, 2, none⟩ = some (.int .u64 x.pl) ∧ w2.cell? ⟨sb, 3, none⟩ = some (.int .u64 x.v))) (by kernel_rfl) ⟨⟨_, _, s5d⟩, s5d.s.c1, s5d.s.c2, s5d.s.c3⟩ (fun hHeld => ?_)
                  refine wpAnyH_take (i := 0) (v := ?_) rfl (by kernel_rfl) (by kernel_rfl) (by kernel_rfl) (fun _ _ _ h => h) (Or.inl ⟨by rfl, ?_⟩) hHeld ?_
                  rotate_left
                  · intro w hSw
                    obtain ⟨_, k1, k2, k3⟩ := hSw
                    go_simp
                    all_goals rfl
                  simp only [Act.put, List.getElem_toArray, List.getElem_cons_zero, List.setIfInBounds_toArray, List.set_cons_zero, List.set_cons_succ]
                  refine wpAnyH_take (i := 1) (v := ?_) rfl (by kernel_rfl) (by kernel_rfl) (by kernel_rfl) (fun _ _ _ h => h) (Or.inl ⟨by rfl, ?_⟩) hHeld ?_
                  rotate_left
                  · intro w hSw
                    obtain ⟨_, k1, k2, k3⟩ := hSw
                    go_simp
                    all_goals rfl
                  simp only [Act.put, List.getElem_toArray, List.getElem_cons_zero, List.getElem_cons_succ, List.setIfInBounds_toArray, List.set_cons_zero, List.set_cons_succ]
                  refine wpAnyH_take (i := 2) (v := ?_) rfl (by kernel_rfl) (by kernel_rfl) (by kernel_rfl) (fun _ _ _ h => h) (Or.inl ⟨by rfl, ?_⟩) hHeld ?_
                  rotate_left
                  · intro w hSw
                    obtain ⟨_, k1, k2, k3⟩ := hSw
                    go_simp
                    all_goals rfl
                  simp only [Act.put, List.getElem_toArray, List.getElem_cons_zero, List.getElem_cons_succ, List.setIfInBounds_toArray, List.set_cons_zero, List.set_cons_succ]
                  refine wpAnyH_take (i := 3) (v := ?_) rfl (by kernel_rfl) (by kernel_rfl) (by kernel_rfl) (fun _ _ _ h => h) (Or.inl ⟨by rfl, ?_⟩) hHeld ?_
                  rotate_left
                  · intro w hSw
                    obtain ⟨_, k1, k2, k3⟩ := hSw
                    go_simp
                    all_goals rfl
                  simp only [Act.put, List.getElem_toArray, List.getElem_cons_zero, List.getElem_cons_succ, List.setIfInBounds_toArray, List.set_cons_zero, List.set_cons_succ]
                  refine wpAnyH_take (i := 4) (v := ?_) rfl (by kernel_rfl) (by kernel_rfl) (by kernel_rfl) (fun _ _ _ h => h) (Or.inl ⟨by rfl, ?_⟩) hHeld ?_
                  rotate_left
                  · intro w hSw
                    obtain ⟨_, k1, k2, k3⟩ := hSw
                    go_simp
                    all_goals rfl
                  simp only [Act.put, List.getElem_toArray, List.getElem_cons_zero, List.getElem_cons_succ, List.setIfInBounds_toArray, List.set_cons_zero, List.set_cons_succ]
                  refine wpAnyH_take (i := 5) (v := ?_) rfl (by kernel_rfl) (by kernel_rfl) (by kernel_rfl) (fun _ _ _ h => h) (Or.inl ⟨by rfl, ?_⟩) hHeld ?_
                  rotate_left
                  · intro w hSw
                    obtain ⟨_, k1, k2, k3⟩ := hSw
                    go_simp
                    all_goals rfl
                  simp only [Act.put, List.getElem_toArray, List.getElem_cons_zero, List.getElem_cons_succ, List.setIfInBounds_toArray, List.set_cons_zero, List.set_cons_succ]
                  refine wpAnyH_take (i := 6) (v := ?_) rfl (by kernel_rfl) (by kernel_rfl) (by kernel_rfl) (fun _ _ _ h => h) (Or.inl ⟨by rfl, ?_⟩) hHeld ?_
                  rotate_left
                  · intro w hSw
                    obtain ⟨_, k1, k2, k3⟩ := hSw
                    go_simp
                    all_goals rfl
                  simp only [Act.put, List.getElem_toArray, List.getElem_cons_zero, List.getElem_cons_succ, List.setIfInBounds_toArray, List.set_cons_zero, List.set_cons_succ]
                  refine wpAnyH_take (i := 8) (v := ?_) rfl (by kernel_rfl) (by kernel_rfl) (by kernel_rfl) (fun _ _ _ h => h) (Or.inl ⟨by rfl, ?_⟩) hHeld ?_
                  rotate_left
                  · intro w hSw
                    obtain ⟨_, k1, k2, k3⟩ := hSw
                    go_simp
                    all_goals rfl
                  simp only [Act.put, List.getElem_toArray, List.getElem_cons_zero, List.getElem_cons_succ, List.setIfInBounds_toArray, List.set_cons_zero, List.set_cons_succ]
                  refine wpAnyH_take (i := 9) (v := ?_) rfl (by kernel_rfl) (by kernel_rfl) (by kernel_rfl) (fun _ _ _ h => h) (Or.inl ⟨by rfl, ?_⟩) hHeld ?_
                  rotate_left
                  · intro w hSw
                    obtain ⟨_, k1, k2, k3⟩ := hSw
                    go_simp
                    all_goals rfl
                  simp only [Act.put, List.getElem_toArray, List.getElem_cons_zero, List.getElem_cons_succ, List.setIfInBounds_toArray, List.set_cons_zero, List.set_cons_succ]
                  refine wpAnyH_take (i := 10) (v := ?_) rfl (by kernel_rfl) (by kernel_rfl) (by kernel_rfl) (fun _ _ _ h => h) (Or.inl ⟨by rfl, ?_⟩) hHeld ?_
                  rotate_left
                  · intro w hSw
                    obtain ⟨_, k1, k2, k3⟩ := hSw
                    go_simp
                    all_goals rfl
                  simp only [Act.put, List.getElem_toArray, List.getElem_cons_zero, List.getElem_cons_succ, List.setIfInBounds_toArray, List.set_cons_zero, List.set_cons_succ]
                  refine wpAnyH_take (i := 11) (v := ?_) rfl (by kernel_rfl) (by kernel_rfl) (by kernel_rfl) (fun _ _ _ h => h) (Or.inl ⟨by rfl, ?_⟩) hHeld ?_
                  rotate_left
                  · intro w hSw
                    obtain ⟨_, k1, k2, k3⟩ := hSw
                    go_simp
                    all_goals rfl
                  simp only [Act.put, List.getElem_toArray, List.getElem_cons_zero, List.getElem_cons_succ, List.setIfInBounds_toArray, List.set_cons_zero, List.set_cons_succ]
                  refine wpAnyH_take (i := 12) (v := ?_) rfl (by kernel_rfl) (by kernel_rfl) (by kernel_rfl) (fun _ _ _ h => h) (Or.inl ⟨by rfl, ?_⟩) hHeld ?_
                  rotate_left
                  · intro w hSw
                    obtain ⟨_, k1, k2, k3⟩ := hSw
                    go_simp
                    all_goals rfl
                  simp only [Act.put, List.getElem_toArray, List.getElem_cons_zero, List.getElem_cons_succ, List.setIfInBounds_toArray, List.set_cons_zero, List.set_cons_succ]
                  refine wpAnyH_take (i := 13) (v := ?_) rfl (by kernel_rfl) (by kernel_rfl) (by kernel_rfl) (fun _ _ _ h => h) (Or.inl ⟨by rfl, ?_⟩) hHeld ?_
                  rotate_left
                  · intro w hSw
                    obtain ⟨_, k1, k2, k3⟩ := hSw
                    go_simp
                    all_goals rfl
                  simp only [Act.put, List.getElem_toArray, List.getElem_cons_zero, List.getElem_cons_succ, List.setIfInBounds_toArray, List.set_cons_zero, List.set_cons_succ]
                  refine wpAnyH_take (i := 14) (v := ?_) rfl (by kernel_rfl) (by kernel_rfl) (by kernel_rfl) (fun _ _ _ h => h) (Or.inl ⟨by rfl, ?_⟩) hHeld ?_
                  rotate_left
                  · intro w hSw
                    obtain ⟨_, k1, k2, k3⟩ := hSw
                    go_simp
                    all_goals rfl
                  simp only [Act.put, List.getElem_toArray, List.getElem_cons_zero, List.getElem_cons_succ, List.setIfInBounds_toArray, List.set_cons_zero, List.set_cons_succ]
                  refine wpAnyH_ready (rs := [7]) (by kernel_rfl) (by simp) ?_
                  refine AllReadyH.cons rfl (fun K hK => ?_) AllReadyH.nil
                  go_simp
                  refine (t_write s5d _ _ _ ha).mono ?_
                  rintro e w6 ⟨rfl, s6⟩
                  go_simp
                  refine hK.out _ _ ⟨⟨_, _, s6⟩, s6.s.c1, s6.s.c2, s6.s.c3⟩ (fun hHeld => ?_)
                  clear hK K
                  try simp only [Act.put, List.setIfInBounds_toArray, List.set_cons_zero, List.set_cons_succ]
                  refine wpAnyH_ready (rs := [15]) (by kernel_rfl) (by simp) ?_
                  refine AllReadyH.cons rfl (fun K hK => ?_) AllReadyH.nil
                  go_simp
                  refine (t_rwrite s6 _ _ _ ha hv).mono ?_
                  rintro e w7 ⟨rfl, s7⟩
                  go_simp
                  refine hK.out _ _ ⟨⟨_, _, s7⟩, s7.s.c1, s7.s.c2, s7.s.c3⟩ (fun hHeld => ?_)
                  clear hK K
                  try simp only [Act.put, List.setIfInBounds_toArray, List.set_cons_zero, List.set_cons_succ]
                  refine wpAnyH_take (i := 16) (v := ?_) rfl (by kernel_rfl) (by kernel_rfl) (by kernel_rfl) (fun _ _ _ h => h) (Or.inl ⟨by rfl, ?_⟩) hHeld ?_
                  rotate_left
                  · intro w hSw
                    obtain ⟨_, k1, k2, k3⟩ := hSw
                    go_simp
                    all_goals rfl
                  simp only [Act.put, List.getElem_toArray, List.getElem_cons_zero, List.getElem_cons_succ, List.setIfInBounds_toArray, List.set_cons_zero, List.set_cons_succ]
                  refine wpAnyH_done (by kernel_rfl) ?_ _
                  go_wp2_with fail
                  go_meet
                  case rel => exact ⟨_, s7⟩
                · have hn3 : (x.what == 3) = false := beq_eq_false_iff_ne.2 hw3
                  by_cases hw4 : x.what = 4
                  · have hn4 : (x.what == 4) = true := by rw [hw4]; rfl
                    go_wp2_with fail
                    refine (t_type s5 _ _).mono ?_
                    rintro e w6 ⟨rfl, s6⟩
                    obtain ⟨f0, f1, f2, f3, f4⟩ := s6.s
                    clear s5 e0 e1 e2 e3 e4
                    go_wp2_with fail
                    refine (t_rtype s6 _ _ hbs).mono ?_
                    rintro e w7 ⟨rfl, s7⟩
                    go_wp2_with fail
                    go_meet
                    case rel => exact ⟨_, s7⟩
                  · have hn4 : (x.what == 4) = false := beq_eq_false_iff_ne.2 hw4
                    go_wp2_with fail
                    refine (t_set s5 _).mono ?_
                    rintro e w6 ⟨rfl, s6⟩
                    obtain ⟨f0, f1, f2, f3, f4⟩ := s6.s
                    obtain ⟨pq, qq, hrb, _, _⟩ := s6.r.ex
                    have rc1 := hrb.c1
                    have rf1 := hrb.row.frozen 1
                    have s7 := s6.ref (s6.r.set1 x.v hv).1 (s6.r.set1 x.v hv).2
                    clear s5 e0 e1 e2 e3 e4 hrb
                    go_wp2_with fail
                    go_meet
                    case rel => exact ⟨_, s7⟩
        case rest =>
          obtain ⟨M', s8⟩ := hcut
          go_wp2_with fail
          refine (t_cwrite s8 _ _ _ (U_lit (by decide))).mono ?_
          rintro e w9 ⟨rfl, s9⟩
          go_wp2_with fail
          refine (t_cwrite s9 _ _ _ (U_lit (by decide))).mono ?_
          rintro e w10 ⟨rfl, s10⟩
          generalize hN : wrN (wrN M 61696 1 99) 0 8 77 = N' at s10
          clear hN s8 s9
          go_wp2
          go_loopw [12] (fun i wi => ∃ j : Nat, j ≤ 4 ∧ i = .int .i64 (j : Int) ∧ Trio W wi h1 h2 b r sb lo hi c x M' M' N') (fun i _ => 4 - (intOf i).toNat)
          case atStart => exact ⟨0, by omega, rfl, s10⟩
          case round =>
            obtain ⟨j, hj, rfl, sj⟩ := hrel
            clear s10
            by_cases hj4 : j < 4
            · have l1 : (j : Int) < 4 := by omega
              have l0 : (0 : Int) ≤ (j : Int) := by omega
              go_wp2
              have sjd := sj.kept ((Only.refl _ wr).drew)
              have hcell := ref_out sjd hj4
              refine wp_region_held_drew (S := (fun w2 => Trio W w2 h1 h2 b r sb lo hi c x M' M' N' ∧ w2.cell? ⟨r, 11 + j, none⟩ = some (.string (bs (M'.P j).out)))) (by kernel_rfl) ⟨sjd, hcell⟩ (fun hHeld => ?_)
              refine wpAnyH_take (i := 0) (v := ?_) rfl (by kernel_rfl) (by kernel_rfl) (by kernel_rfl) (fun _ _ _ h => h) (Or.inl ⟨by rfl, ?_⟩) hHeld ?_
              rotate_left
              · intro w hSw
                obtain ⟨_, k1⟩ := hSw
                go_simp
                all_goals rfl
              simp only [Act.put, List.getElem_toArray, List.getElem_cons_zero, List.setIfInBounds_toArray, List.set_cons_zero, List.set_cons_succ]
              refine wpAnyH_take (i := 1) (v := ?_) rfl (by kernel_rfl) (by kernel_rfl) (by kernel_rfl) (fun _ _ _ h => h) (Or.inl ⟨by rfl, ?_⟩) hHeld ?_
              rotate_left
              · intro w hSw
                obtain ⟨_, k1⟩ := hSw
                go_simp
                all_goals rfl
              simp only [Act.put, List.getElem_toArray, List.getElem_cons_zero, List.getElem_cons_succ, List.setIfInBounds_toArray, List.set_cons_zero, List.set_cons_succ]
              refine wpAnyH_take (i := 3) (v := ?_) rfl (by kernel_rfl) (by kernel_rfl) (by kernel_rfl) (fun _ _ _ h => h) (Or.inl ⟨by rfl, ?_⟩) hHeld ?_
              rotate_left
              · intro w hSw
                obtain ⟨_, k1⟩ := hSw
                go_simp
                all_goals rfl
              simp only [Act.put, List.getElem_toArray, List.getElem_cons_zero, List.getElem_cons_succ, List.setIfInBounds_toArray, List.set_cons_zero, List.set_cons_succ]
              refine wpAnyH_take (i := 4) (v := ?_) rfl (by kernel_rfl) (by kernel_rfl) (by kernel_rfl) (fun _ _ _ h => h) (Or.inl ⟨by rfl, ?_⟩) hHeld ?_
              rotate_left
              · intro w hSw
                obtain ⟨_, k1⟩ := hSw
                go_simp
                all_goals rfl
              simp only [Act.put, List.getElem_toArray, List.getElem_cons_zero, List.getElem_cons_succ, List.setIfInBounds_toArray, List.set_cons_zero, List.set_cons_succ]
              refine wpAnyH_take (i := 5) (v := ?_) rfl (by kernel_rfl) (by kernel_rfl) (by kernel_rfl) (fun _ _ _ h => h) (Or.inl ⟨by rfl, ?_⟩) hHeld ?_
              rotate_left
              · intro w hSw
                obtain ⟨_, k1⟩ := hSw
                go_simp
                all_goals rfl
              simp only [Act.put, List.getElem_toArray, List.getElem_cons_zero, List.getElem_cons_succ, List.setIfInBounds_toArray, List.set_cons_zero, List.set_cons_succ]
              refine wpAnyH_take (i := 6) (v := ?_) rfl (by kernel_rfl) (by kernel_rfl) (by kernel_rfl) (fun _ _ _ h => h) (Or.inl ⟨by rfl, ?_⟩) hHeld ?_
              rotate_left
              · intro w hSw
                obtain ⟨_, k1⟩ := hSw
                go_simp
                all_goals rfl
              simp only [Act.put, List.getElem_toArray, List.getElem_cons_zero, List.getElem_cons_succ, List.setIfInBounds_toArray, List.set_cons_zero, List.set_cons_succ]
              refine wpAnyH_take (i := 7) (v := ?_) rfl (by kernel_rfl) (by kernel_rfl) (by kernel_rfl) (fun _ _ _ h => h) (Or.inl ⟨by rfl, ?_⟩) hHeld ?_
              rotate_left
              · intro w hSw
                obtain ⟨_, k1⟩ := hSw
                go_simp
                all_goals rfl
              simp only [Act.put, List.getElem_toArray, List.getElem_cons_zero, List.getElem_cons_succ, List.setIfInBounds_toArray, List.set_cons_zero, List.set_cons_succ]
              refine wpAnyH_take (i := 8) (v := ?_) rfl (by kernel_rfl) (by kernel_rfl) (by kernel_rfl) (fun _ _ _ h => h) (Or.inl ⟨by rfl, ?_⟩) hHeld ?_
              rotate_left
              · intro w hSw
                obtain ⟨_, k1⟩ := hSw
                go_simp
                all_goals rfl
              simp only [Act.put, List.getElem_toArray, List.getElem_cons_zero, List.getElem_cons_succ, List.setIfInBounds_toArray, List.set_cons_zero, List.set_cons_succ]
              refine wpAnyH_ready (rs := [2]) (by kernel_rfl) (by simp) ?_
              refine AllReadyH.cons rfl (fun K hK => ?_) AllReadyH.nil
              go_simp
              refine (t_out hHeld.1 _).mono ?_
              rintro e w11 ⟨rfl, s11⟩
              rw [out_at _ hj4]
              go_simp
              refine hK.out _ _ ⟨s11, ref_out s11 hj4⟩ (fun hHeld => ?_)
              clear hK K
              try simp only [Act.put, List.setIfInBounds_toArray, List.set_cons_zero, List.set_cons_succ]
              refine wpAnyH_take (i := 9) (v := ?_) rfl (by kernel_rfl) (by kernel_rfl) (by kernel_rfl) (fun _ _ _ h => h) (Or.inl ⟨by rfl, ?_⟩) hHeld ?_
              rotate_left
              · intro w hSw
                obtain ⟨_, k1⟩ := hSw
                go_simp
                all_goals rfl
              simp only [Act.put, List.getElem_toArray, List.getElem_cons_zero, List.getElem_cons_succ, List.setIfInBounds_toArray, List.set_cons_zero, List.set_cons_succ]
              refine wpAnyH_done (by kernel_rfl) ?_ _
              go_wp2
              exact ⟨⟨j + 1, by omega, by go_num, hHeld.1⟩, by simp [intOf]; omega⟩
            · obtain rfl : j = 4 := by omega
              have sjd := sj.kept ((Only.refl _ wr).drew)
              obtain ⟨pr', qr', hrb, _, _⟩ := sjd.r.ex
              obtain ⟨pm, qm, hpb, _, _⟩ := sjd.p.ex
              obtain ⟨F', hpc⟩ := id hpb
              have hS : ∀ w2, Kept wr.drew w2 → Kept wr.drew w2 ∧ w2.cell? ⟨sb, 2, none⟩ = some (.int .u64 x.pl) ∧ w2.cell? ⟨r, 0, none⟩ = some (.pointer (some ⟨pr', 0, none⟩)) := fun w2 g => ⟨g, (sjd.kept g).s.c2, (hrb.kept g).c0⟩
              go_wp2
              refine wp_region_held_drew (S := (fun w2 => Kept wr.drew w2 ∧ w2.cell? ⟨sb, 2, none⟩ = some (.int .u64 x.pl) ∧ w2.cell? ⟨r, 0, none⟩ = some (.pointer (some ⟨pr', 0, none⟩)))) (by kernel_rfl) (hS _ (Only.refl _ _)) (fun hHeld => ?_)
              refine wpAnyH_take (i := 0) (v := ?_) rfl (by kernel_rfl) (by kernel_rfl) (by kernel_rfl) (fun _ _ _ h => h) (Or.inl ⟨by rfl, ?_⟩) hHeld ?_
              rotate_left
              · intro w hSw
                obtain ⟨_, k1, k2⟩ := hSw
                go_simp
                all_goals rfl
              simp only [Act.put, List.getElem_toArray, List.getElem_cons_zero, List.setIfInBounds_toArray, List.set_cons_zero, List.set_cons_succ]
              refine wpAnyH_take (i := 2) (v := ?_) rfl (by kernel_rfl) (by kernel_rfl) (by kernel_rfl) (fun _ _ _ h => h) (Or.inl ⟨by rfl, ?_⟩) hHeld ?_
              rotate_left
              · intro w hSw
                obtain ⟨_, k1, k2⟩ := hSw
                go_simp
                all_goals rfl
              simp only [Act.put, List.getElem_toArray, List.getElem_cons_zero, List.getElem_cons_succ, List.setIfInBounds_toArray, List.set_cons_zero, List.set_cons_succ]
              refine wpAnyH_ready (rs := [1]) (by kernel_rfl) (by simp) ?_
              refine AllReadyH.cons rfl (fun K hK => ?_) AllReadyH.nil
              go_simp
              refine (btimer_any (hpb.kept hHeld.1)).mono ?_
              rintro e wn ⟨rfl, kn⟩
              go_simp
              refine hK.out _ _ (hS _ (hHeld.1.then kn)) (fun hHeld => ?_)
              clear hK K
              try simp only [Act.put, List.setIfInBounds_toArray, List.set_cons_zero, List.set_cons_succ]
              refine wpAnyH_ready (rs := [3]) (by kernel_rfl) (by simp) ?_
              refine AllReadyH.cons rfl (fun K hK => ?_) AllReadyH.nil
              go_simp
              refine (rtimer_any (hrb.kept hHeld.1)).mono ?_
              rintro e wn ⟨rfl, kn⟩
              go_simp
              refine hK.out _ _ (hS _ (hHeld.1.then kn)) (fun hHeld => ?_)
              clear hK K
              try simp only [Act.put, List.setIfInBounds_toArray, List.set_cons_zero, List.set_cons_succ]
              refine wpAnyH_take (i := 4) (v := ?_) rfl (by kernel_rfl) (by kernel_rfl) (by kernel_rfl) (fun _ _ _ h => h) (Or.inl ⟨by rfl, ?_⟩) hHeld ?_
              rotate_left
              · intro w hSw
                obtain ⟨_, k1, k2⟩ := hSw
                go_simp
                all_goals rfl
              simp only [Act.put, List.getElem_toArray, List.getElem_cons_zero, List.getElem_cons_succ, List.setIfInBounds_toArray, List.set_cons_zero, List.set_cons_succ]
              refine wpAnyH_take (i := 5) (v := ?_) rfl (by kernel_rfl) (by kernel_rfl) (by kernel_rfl) (fun _ _ _ h => h) (Or.inl ⟨by rfl, ?_⟩) hHeld ?_
              rotate_left
              · intro w hSw
                obtain ⟨_, k1, k2⟩ := hSw
                go_simp
                all_goals rfl
              simp only [Act.put, List.getElem_toArray, List.getElem_cons_zero, List.getElem_cons_succ, List.setIfInBounds_toArray, List.set_cons_zero, List.set_cons_succ]
              refine wpAnyH_take (i := 6) (v := ?_) rfl (by kernel_rfl) (by kernel_rfl) (by kernel_rfl) (fun _ _ _ h => h) (Or.inl ⟨by rfl, ?_⟩) hHeld ?_
              rotate_left
              · intro w hSw
                obtain ⟨_, k1, k2⟩ := hSw
                go_simp
                all_goals rfl
              simp only [Act.put, List.getElem_toArray, List.getElem_cons_zero, List.getElem_cons_succ, List.setIfInBounds_toArray, List.set_cons_zero, List.set_cons_succ]
              refine wpAnyH_take (i := 7) (v := ?_) rfl (by kernel_rfl) (by kernel_rfl) (by kernel_rfl) (fun _ _ _ h => h) (Or.inl ⟨by rfl, ?_⟩) hHeld ?_
              rotate_left
              · intro w hSw
                obtain ⟨_, k1, k2⟩ := hSw
                go_simp
                all_goals rfl
              simp only [Act.put, List.getElem_toArray, List.getElem_cons_zero, List.getElem_cons_succ, List.setIfInBounds_toArray, List.set_cons_zero, List.set_cons_succ]
              refine wpAnyH_take (i := 8) (v := ?_) rfl (by kernel_rfl) (by kernel_rfl) (by kernel_rfl) (fun _ _ _ h => h) (Or.inl ⟨by rfl, ?_⟩) hHeld ?_
              rotate_left
              · intro w hSw
                obtain ⟨_, k1, k2⟩ := hSw
                go_simp
                all_goals rfl
              simp only [Act.put, List.getElem_toArray, List.getElem_cons_zero, List.getElem_cons_succ, List.setIfInBounds_toArray, List.set_cons_zero, List.set_cons_succ]
              refine wpAnyH_take (i := 10) (v := ?_) rfl (by kernel_rfl) (by kernel_rfl) (by kernel_rfl) (fun _ _ _ h => h) (Or.inl ⟨by rfl, ?_⟩) hHeld ?_
              rotate_left
              · intro w hSw
                obtain ⟨_, k1, k2⟩ := hSw
                go_simp
                all_goals rfl
              simp only [Act.put, List.getElem_toArray, List.getElem_cons_zero, List.getElem_cons_succ, List.setIfInBounds_toArray, List.set_cons_zero, List.set_cons_succ]
              refine wpAnyH_take (i := 11) (v := ?_) rfl (by kernel_rfl) (by kernel_rfl) (by kernel_rfl) (fun _ _ _ h => h) (Or.inl ⟨by rfl, ?_⟩) hHeld ?_
              rotate_left
              · intro w hSw
                obtain ⟨_, k1, k2⟩ := hSw
                go_simp
                all_goals rfl
              simp only [Act.put, List.getElem_toArray, List.getElem_cons_zero, List.getElem_cons_succ, List.setIfInBounds_toArray, List.set_cons_zero, List.set_cons_succ]
              refine wpAnyH_take (i := 12) (v := ?_) rfl (by kernel_rfl) (by kernel_rfl) (by kernel_rfl) (fun _ _ _ h => h) (Or.inl ⟨by rfl, ?_⟩) hHeld ?_
              rotate_left
              · intro w hSw
                obtain ⟨_, k1, k2⟩ := hSw
                go_simp
                all_goals rfl
              simp only [Act.put, List.getElem_toArray, List.getElem_cons_zero, List.getElem_cons_succ, List.setIfInBounds_toArray, List.set_cons_zero, List.set_cons_succ]
              refine wpAnyH_ready (rs := [9]) (by kernel_rfl) (by simp) ?_
              refine AllReadyH.cons rfl (fun K hK => ?_) AllReadyH.nil
              go_simp
              refine (dev_any _ _ _).mono ?_
              rintro e w' ⟨rfl, rfl⟩
              go_simp
              refine hK.out _ _ hHeld (fun hHeld => ?_)
              clear hK K
              try simp only [Act.put, List.setIfInBounds_toArray, List.set_cons_zero, List.set_cons_succ]
              refine wpAnyH_ready (rs := [13]) (by kernel_rfl) (by simp) ?_
              refine AllReadyH.cons rfl (fun K hK => ?_) AllReadyH.nil
              go_simp
              refine (rdev_any _ (hrb.kept hHeld.1)).mono ?_
              rintro e w' ⟨rfl, rfl⟩
              go_simp
              refine hK.out _ _ hHeld (fun hHeld => ?_)
              clear hK K
              try simp only [Act.put, List.setIfInBounds_toArray, List.set_cons_zero, List.set_cons_succ]
              refine wpAnyH_take (i := 14) (v := ?_) rfl (by kernel_rfl) (by kernel_rfl) (by kernel_rfl) (fun _ _ _ h => h) (Or.inl ⟨by rfl, ?_⟩) hHeld ?_
              rotate_left
              · intro w hSw
                obtain ⟨_, k1, k2⟩ := hSw
                go_simp
                all_goals rfl
              simp only [Act.put, List.getElem_toArray, List.getElem_cons_zero, List.getElem_cons_succ, List.setIfInBounds_toArray, List.set_cons_zero, List.set_cons_succ]
              refine wpAnyH_take (i := 15) (v := ?_) rfl (by kernel_rfl) (by kernel_rfl) (by kernel_rfl) (fun _ _ _ h => h) (Or.inl ⟨by rfl, ?_⟩) hHeld ?_
              rotate_left
              · intro w hSw
                obtain ⟨_, k1, k2⟩ := hSw
                go_simp
                all_goals rfl
              simp only [Act.put, List.getElem_toArray, List.getElem_cons_zero, List.getElem_cons_succ, List.setIfInBounds_toArray, List.set_cons_zero, List.set_cons_succ]
              refine wpAnyH_take (i := 16) (v := ?_) rfl (by kernel_rfl) (by kernel_rfl) (by kernel_rfl) (fun _ _ _ h => h) (Or.inl ⟨by rfl, ?_⟩) hHeld ?_
              rotate_left
              · intro w hSw
                obtain ⟨_, k1, k2⟩ := hSw
                go_simp
                all_goals rfl
              simp only [Act.put, List.getElem_toArray, List.getElem_cons_zero, List.getElem_cons_succ, List.setIfInBounds_toArray, List.set_cons_zero, List.set_cons_succ]
              refine wpAnyH_take (i := 17) (v := ?_) rfl (by kernel_rfl) (by kernel_rfl) (by kernel_rfl) (fun _ _ _ h => h) (Or.inl ⟨by rfl, ?_⟩) hHeld ?_
              rotate_left
              · intro w hSw
                obtain ⟨_, k1, k2⟩ := hSw
                go_simp
                all_goals rfl
              simp only [Act.put, List.getElem_toArray, List.getElem_cons_zero, List.getElem_cons_succ, List.setIfInBounds_toArray, List.set_cons_zero, List.set_cons_succ]
              refine wpAnyH_take (i := 19) (v := ?_) rfl (by kernel_rfl) (by kernel_rfl) (by kernel_rfl) (fun _ _ _ h => h) (Or.inl ⟨by rfl, ?_⟩) hHeld ?_
              rotate_left
              · intro w hSw
                obtain ⟨_, k1, k2⟩ := hSw
                go_simp
                all_goals rfl
              simp only [Act.put, List.getElem_toArray, List.getElem_cons_zero, List.getElem_cons_succ, List.setIfInBounds_toArray, List.set_cons_zero, List.set_cons_succ]
              refine wpAnyH_take (i := 20) (v := ?_) rfl (by kernel_rfl) (by kernel_rfl) (by kernel_rfl) (fun _ _ _ h => h) (Or.inl ⟨by rfl, ?_⟩) hHeld ?_
              rotate_left
              · intro w hSw
                obtain ⟨_, k1, k2⟩ := hSw
                go_simp
                all_goals rfl
              simp only [Act.put, List.getElem_toArray, List.getElem_cons_zero, List.getElem_cons_succ, List.setIfInBounds_toArray, List.set_cons_zero, List.set_cons_succ]
              refine wpAnyH_take (i := 21) (v := ?_) rfl (by kernel_rfl) (by kernel_rfl) (by kernel_rfl) (fun _ _ _ h => h) (Or.inl ⟨by rfl, ?_⟩) hHeld ?_
              rotate_left
              · intro w hSw
                obtain ⟨_, k1, k2⟩ := hSw
                go_simp
                all_goals rfl
              simp only [Act.put, List.getElem_toArray, List.getElem_cons_zero, List.getElem_cons_succ, List.setIfInBounds_toArray, List.set_cons_zero, List.set_cons_succ]
              refine wpAnyH_take (i := 22) (v := ?_) rfl (by kernel_rfl) (by kernel_rfl) (by kernel_rfl) (fun _ _ _ h => h) (Or.inl ⟨by rfl, ?_⟩) hHeld ?_
              rotate_left
              · intro w hSw
                obtain ⟨_, k1, k2⟩ := hSw
                go_simp
                all_goals rfl
              simp only [Act.put, List.getElem_toArray, List.getElem_cons_zero, List.getElem_cons_succ, List.setIfInBounds_toArray, List.set_cons_zero, List.set_cons_succ]
              refine wpAnyH_take (i := 23) (v := ?_) rfl (by kernel_rfl) (by kernel_rfl) (by kernel_rfl) (fun _ _ _ h => h) (Or.inl ⟨by rfl, ?_⟩) hHeld ?_
              rotate_left
              · intro w hSw
                obtain ⟨_, k1, k2⟩ := hSw
                go_simp
                all_goals rfl
              simp only [Act.put, List.getElem_toArray, List.getElem_cons_zero, List.getElem_cons_succ, List.setIfInBounds_toArray, List.set_cons_zero, List.set_cons_succ]
              refine wpAnyH_take (i := 25) (v := ?_) rfl (by kernel_rfl) (by kernel_rfl) (by kernel_rfl) (fun _ _ _ h => h) (Or.inl ⟨by rfl, ?_⟩) hHeld ?_
              rotate_left
              · intro w hSw
                obtain ⟨_, k1, k2⟩ := hSw
                go_simp
                all_goals rfl
              simp only [Act.put, List.getElem_toArray, List.getElem_cons_zero, List.getElem_cons_succ, List.setIfInBounds_toArray, List.set_cons_zero, List.set_cons_succ]
              refine wpAnyH_take (i := 26) (v := ?_) rfl (by kernel_rfl) (by kernel_rfl) (by kernel_rfl) (fun _ _ _ h => h) (Or.inl ⟨by rfl, ?_⟩) hHeld ?_
              rotate_left
              · intro w hSw
                obtain ⟨_, k1, k2⟩ := hSw
                go_simp
                all_goals rfl
              simp only [Act.put, List.getElem_toArray, List.getElem_cons_zero, List.getElem_cons_succ, List.setIfInBounds_toArray, List.set_cons_zero, List.set_cons_succ]
              refine wpAnyH_take (i := 27) (v := ?_) rfl (by kernel_rfl) (by kernel_rfl) (by kernel_rfl) (fun _ _ _ h => h) (Or.inl ⟨by rfl, ?_⟩) hHeld ?_
              rotate_left
              · intro w hSw
                obtain ⟨_, k1, k2⟩ := hSw
                go_simp
                all_goals rfl
              simp only [Act.put, List.getElem_toArray, List.getElem_cons_zero, List.getElem_cons_succ, List.setIfInBounds_toArray, List.set_cons_zero, List.set_cons_succ]
              refine wpAnyH_take (i := 28) (v := ?_) rfl (by kernel_rfl) (by kernel_rfl) (by kernel_rfl) (fun _ _ _ h => h) (Or.inl ⟨by rfl, ?_⟩) hHeld ?_
              rotate_left
              · intro w hSw
                obtain ⟨_, k1, k2⟩ := hSw
                go_simp
                all_goals rfl
              simp only [Act.put, List.getElem_toArray, List.getElem_cons_zero, List.getElem_cons_succ, List.setIfInBounds_toArray, List.set_cons_zero, List.set_cons_succ]
              refine wpAnyH_take (i := 29) (v := ?_) rfl (by kernel_rfl) (by kernel_rfl) (by kernel_rfl) (fun _ _ _ h => h) (Or.inl ⟨by rfl, ?_⟩) hHeld ?_
              rotate_left
              · intro w hSw
                obtain ⟨_, k1, k2⟩ := hSw
                go_simp
                all_goals rfl
              simp only [Act.put, List.getElem_toArray, List.getElem_cons_zero, List.getElem_cons_succ, List.setIfInBounds_toArray, List.set_cons_zero, List.set_cons_succ]
              refine wpAnyH_take (i := 30) (v := ?_) rfl (by kernel_rfl) (by kernel_rfl) (by kernel_rfl) (fun _ _ _ h => h) (Or.inl ⟨by rfl, ?_⟩) hHeld ?_
              rotate_left
              · intro w hSw
                obtain ⟨_, k1, k2⟩ := hSw
                go_simp
                all_goals rfl
              simp only [Act.put, List.getElem_toArray, List.getElem_cons_zero, List.getElem_cons_succ, List.setIfInBounds_toArray, List.set_cons_zero, List.set_cons_succ]
              refine wpAnyH_take (i := 31) (v := ?_) rfl (by kernel_rfl) (by kernel_rfl) (by kernel_rfl) (fun _ _ _ h => h) (Or.inl ⟨by rfl, ?_⟩) hHeld ?_
              rotate_left
              · intro w hSw
                obtain ⟨_, k1, k2⟩ := hSw
                go_simp
                all_goals rfl
              simp only [Act.put, List.getElem_toArray, List.getElem_cons_zero, List.getElem_cons_succ, List.setIfInBounds_toArray, List.set_cons_zero, List.set_cons_succ]
              refine wpAnyH_take (i := 32) (v := ?_) rfl (by kernel_rfl) (by kernel_rfl) (by kernel_rfl) (fun _ _ _ h => h) (Or.inl ⟨by rfl, ?_⟩) hHeld ?_
              rotate_left
              · intro w hSw
                obtain ⟨_, k1, k2⟩ := hSw
                go_simp
                all_goals rfl
              simp only [Act.put, List.getElem_toArray, List.getElem_cons_zero, List.getElem_cons_succ, List.setIfInBounds_toArray, List.set_cons_zero, List.set_cons_succ]
              refine wpAnyH_take (i := 33) (v := ?_) rfl (by kernel_rfl) (by kernel_rfl) (by kernel_rfl) (fun _ _ _ h => h) (Or.inl ⟨by rfl, ?_⟩) hHeld ?_
              rotate_left
              · intro w hSw
                obtain ⟨_, k1, k2⟩ := hSw
                go_simp
                all_goals rfl
              simp only [Act.put, List.getElem_toArray, List.getElem_cons_zero, List.getElem_cons_succ, List.setIfInBounds_toArray, List.set_cons_zero, List.set_cons_succ]
              refine wpAnyH_ready (rs := [18]) (by kernel_rfl) (by simp) ?_
              refine AllReadyH.cons rfl (fun K hK => ?_) AllReadyH.nil
              go_simp
              refine (bmem_any (hpb.kept hHeld.1)).mono ?_
              rintro e w' ⟨rfl, rfl⟩
              go_simp
              refine hK.out _ _ hHeld (fun hHeld => ?_)
              clear hK K
              try simp only [Act.put, List.setIfInBounds_toArray, List.set_cons_zero, List.set_cons_succ]
              refine wpAnyH_ready (rs := [24]) (by kernel_rfl) (by simp) ?_
              refine AllReadyH.cons rfl (fun K hK => ?_) AllReadyH.nil
              go_simp
              refine (mframe_any _ _ pm qm _ (hpc.m.kept hHeld.1)).mono ?_
              rintro e wn ⟨rfl, kn⟩
              go_simp
              refine hK.out _ _ (hS _ (hHeld.1.then kn)) (fun hHeld => ?_)
              clear hK K
              try simp only [Act.put, List.setIfInBounds_toArray, List.set_cons_zero, List.set_cons_succ]
              refine wpAnyH_ready (rs := [34]) (by kernel_rfl) (by simp) ?_
              refine AllReadyH.cons rfl (fun K hK => ?_) AllReadyH.nil
              go_simp
              refine (rframe_any _ _ pr' qr' _ (hrb.m.kept hHeld.1)).mono ?_
              rintro e wn ⟨rfl, kn⟩
              go_simp
              refine hK.out _ _ (hS _ (hHeld.1.then kn)) (fun hHeld => ?_)
              clear hK K
              try simp only [Act.put, List.setIfInBounds_toArray, List.set_cons_zero, List.set_cons_succ]
              refine wpAnyH_take (i := 35) (v := ?_) rfl (by kernel_rfl) (by kernel_rfl) (by kernel_rfl) (fun _ _ _ h => h) (Or.inl ⟨by rfl, ?_⟩) hHeld ?_
              rotate_left
              · intro w hSw
                obtain ⟨_, k1, k2⟩ := hSw
                go_simp
                all_goals rfl
              simp only [Act.put, List.getElem_toArray, List.getElem_cons_zero, List.getElem_cons_succ, List.setIfInBounds_toArray, List.set_cons_zero, List.set_cons_succ]
              refine wpAnyH_take (i := 36) (v := ?_) rfl (by kernel_rfl) (by kernel_rfl) (by kernel_rfl) (fun _ _ _ h => h) (Or.inl ⟨by rfl, ?_⟩) hHeld ?_
              rotate_left
              · intro w hSw
                obtain ⟨_, k1, k2⟩ := hSw
                go_simp
                all_goals rfl
              simp only [Act.put, List.getElem_toArray, List.getElem_cons_zero, List.getElem_cons_succ, List.setIfInBounds_toArray, List.set_cons_zero, List.set_cons_succ]
              refine wpAnyH_done (by kernel_rfl) ?_ _
              go_wp2
              go_roundw
              case rel => exact ⟨k + 1, M', by omega, by go_num, (sjd.kept hHeld.1).duo⟩
              case measure => simp [intOf]; omega
    · have hlt' : ¬ (k : Int) < (L.length : Int) := by omega
      go_wp2
      go_ret
      exact ⟨rfl, ht.k⟩
end Go.Proofs.Ytpnlicklfemjeaa
