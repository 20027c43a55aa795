/-
  Two memories behind a row of steps (both of the statement's own): walked for every row.
-/
import Derived.Test.YtagfhfmaonoehaaWTells
import Derived.Deep.RegionHeld3
namespace Go.Proofs.Ytagfhfmaonoehaa
open Go.RowKit
theorem six_newW (w : World) (x : Stw) (t : TypeId) : SixW (w.alloc (.cells #[.bool x.lay, .int .i64 x.root, .int .i64 x.low, .int .i64 x.page, .int .u64 x.e, .int .u64 x.pl] t)) w.heap.size 0 x := by
  constructor <;> simp
theorem duo_s {W w : World} {pm qm pr qr : Nat} {B : Nat → Int} (h : Duo W w pm qm pr qr B B) (x : Stw) (t : TypeId) : DuoS W (w.alloc (.cells #[.bool x.lay, .int .i64 x.root, .int .i64 x.low, .int .i64 x.page, .int .u64 x.e, .int .u64 x.pl] t)) pm qm pr qr w.heap.size x B B := by
  have l1 := h.m.lt
  have l2 := h.r.lt
  exact ⟨h.kept ((Only.refl _ w).alloc _), six_newW w x t, by omega, by omega⟩
theorem lay_yes {B : Nat → Int} {root low page e : Int} (h : layO root low = true) : layT B root low page e = wrZ (wrZ B (low * 256 + 8 * (pgI page % 16)) 8 e) (root * 256 + 8 * (pgI page / 16)) 8 (makI low 1) := by unfold layT; rw [h]; rfl
theorem lay_no {B : Nat → Int} {root low page e : Int} (h : layO root low = false) : layT B root low page e = B := by unfold layT; rw [h]; rfl
theorem wrap_at {a b : Int} (a0 : 0 ≤ a) (a1 : a < 128) (b0 : 0 ≤ b) (b1 : b < 16) : IntKind.u64.wrap (IntKind.i64.wrap (IntKind.i64.wrap (a * 256) + IntKind.i64.wrap (8 * b))) = a * 256 + 8 * b := by
  rw [IntKind.wrap_u64, IntKind.wrap_i64, IntKind.wrap_i64, IntKind.wrap_i64]
  omega
theorem lay_ways {root low : Int} (h : layO root low = false) : root < 0 ∨ (0 ≤ root ∧ 128 ≤ root) ∨ (0 ≤ root ∧ root < 128 ∧ low < 0) ∨ (0 ≤ root ∧ root < 128 ∧ 0 ≤ low ∧ 128 ≤ low) := by
  have := of_decide_eq_false h
  omega
set_option maxRecDepth 100000 in
set_option maxHeartbeats 4000000 in
theorem both_any {W0 W : World} (hT : Tab11 W0) (k0 : Kept W0 W) (L : List Stw) (hL : L.length ≤ 30) (hat : ∀ x ∈ L, U x.pl ∧ U x.e) (b o cap : Nat) (hC : LiesW W b o L) :
    Calls Try.prog 10 #[.slice (some ⟨b, o, none⟩) L.length cap] W fun e w' => ∃ pm qm pr qr B, e = .returned (.tuple #[.pointer (some ⟨pm, 0, none⟩), .pointer (some ⟨pr, 0, none⟩), .bool true]) ∧ Duo W w' pm qm pr qr B B := by
  have hmn := fun ts t k k' x y w => run_mn (P := Try.prog) (w := w) ts t k k' x y
  have hmx := fun ts t k k' x y w => run_mx (P := Try.prog) (w := w) ts t k k' x y
  have hT1 := hT.kept k0
  clear hT k0
  go_enter Try.func10, Try.ntmps10
  go_wp2_with fail
  refine (mnew_any _).mono ?_
  rintro e w2 ⟨pm, qm, rfl, m2, hpm, hqm, k2⟩
  go_wp2_with fail
  refine (rnew_any _).mono ?_
  rintro e w3 ⟨pr, qr, rfl, r3, hpr, hqr, k3⟩
  have t3 : Duo W w3 pm qm pr qr (fun _ => 0) (fun _ => 0) := by
    have l := m2.lt
    exact ⟨m2.kept k3, r3, k2.then k3, hqm, Nat.le_trans k2.size hqr, by omega, by omega, by omega⟩
  clear k2 k3 m2 r3 hpm hqm hpr hqr
  go_wp2
  go_loopw [7] (fun i wr => ∃ (k : Nat) (B : Nat → Int), k ≤ L.length ∧ i = .int .i64 (k : Int) ∧ Duo W wr pm qm pr qr B B) (fun i _ => L.length - (intOf i).toNat)
  case atStart => exact ⟨0, _, Nat.zero_le _, rfl, t3⟩
  case round =>
    obtain ⟨k, B, hk, rfl, ht⟩ := hrel
    clear t3
    by_cases hlt : k < L.length
    · obtain ⟨x, hx⟩ : ∃ x, L[k]? = some x := ⟨_, List.getElem?_eq_getElem (by omega)⟩
      have hlt' : (k : Int) < (L.length : Int) := by omega
      have hk0 : (0 : Int) ≤ (k : Int) := by omega
      have hkeep : Hid (k < L.length) := hlt
      have hk9 : (k : Int) ≤ 30 := by omega
      obtain ⟨ha, hv⟩ := hat x (List.mem_of_getElem? hx)
      obtain ⟨c0, c1, c2, c3, c4, c5⟩ := (hC.kept ht.k) k x hx
      have s5 := duo_s ht x 53
      obtain ⟨e0, e1, e2, e3, e4, e5⟩ := s5.s
      have hlt5 := ht.m.lt
      clear hx hC ht
      obtain ⟨lay, xr, xl, xp, xe, xa⟩ := x
      simp only at ha hv c0 c1 c2 c3 c4 c5 e0 e1 e2 e3 e4 e5 s5
      have p0 := ha.1
      cases lay
      · by_cases hz : codeI xa 8 = 0
        · have hz' : (codeI xa 8 == 0) = true := by rw [hz]; rfl
          go_wp2_with fail
          refine (code_s s5 _ _ ha).mono ?_
          rintro e w6 ⟨rfl, s6⟩
          obtain ⟨f0, f1, f2, f3, f4, f5⟩ := s6.s
          go_wp2_with fail
          refine (mwrite_s s6 _ _ _ ha).mono ?_
          rintro e w7 ⟨rfl, s7⟩
          obtain ⟨g0, g1, g2, g3, g4, g5⟩ := s7.s
          go_wp2_with fail
          refine (rwrite_s s7 _ _ ha hv hz).mono ?_
          rintro e w8 ⟨rfl, s8⟩
          go_wp2
          have hk2 : k < L.length := hkeep
          exact ⟨⟨k + 1, _, by omega, by go_num, s8.t⟩, by simp [intOf]; omega⟩
        · have hz' : (codeI xa 8 == 0) = false := beq_eq_false_iff_ne.2 hz
          go_wp2_with fail
          refine (code_s s5 _ _ ha).mono ?_
          rintro e w6 ⟨rfl, s6⟩
          go_wp2
          have hk2 : k < L.length := hkeep
          exact ⟨⟨k + 1, _, by omega, by go_num, s6.t⟩, by simp [intOf]; omega⟩
      · have hpb := pg_bd xp
        have hpg : mx 0 (mn xp 255) = pgI xp := rfl
        have hp15 : bits .and .i64 (pgI xp) 15 = pgI xp % 16 := i_low (pgI xp) 4 (by omega) 15 rfl
        cases hlo : layO xr xl
        · have hb := lay_no (B := B) (page := xp) (e := xe) hlo
          rcases lay_ways hlo with h1 | ⟨h1, h2⟩ | ⟨h1, h2, h3⟩ | ⟨h1, h2, h3, h4⟩
          all_goals
            clear hpb hpg hp15
            go_wp2_with fail
            refine (wlay_s hT1 s5 _ _ _ _ hv).mono ?_
            rintro e w6 ⟨rfl, s6⟩
            rw [hb] at s6
            rw [hlo]
            go_wp2
            have hk2 : k < L.length := hkeep
            exact ⟨⟨k + 1, _, by omega, by go_num, s6.t⟩, by simp [intOf]; omega⟩
        · obtain ⟨h1, h2, h3, h4⟩ := of_decide_eq_true hlo
          have hc0 := ent_code (lay_low (page := xp) hlo)
          have hc1 := ent_code (lay_top (page := xp) hlo)
          have q0 : U (xl * 256 + 8 * (pgI xp % 16)) := by unfold U; omega
          have q1 : U (xr * 256 + 8 * (pgI xp / 16)) := by unfold U; omega
          have j0 := q0.1
          have j1 := q1.1
          have j2 : xl * 256 + 8 * (pgI xp % 16) < 32768 := by omega
          have j3 : xr * 256 + 8 * (pgI xp / 16) < 32768 := by omega
          have j4 : 0 ≤ pgI xp % 16 := by omega
          have j5 : pgI xp % 16 < 16 := by omega
          have j6 : 0 ≤ pgI xp / 16 := by omega
          have j7 : pgI xp / 16 < 16 := by omega
          obtain ⟨j8, j9⟩ := hpb
          go_wp2_with fail
          refine (wlay_s hT1 s5 _ _ _ _ hv).mono ?_
          rintro e w6 ⟨rfl, s6⟩
          rw [hlo]
          obtain ⟨f0, f1, f2, f3, f4, f5⟩ := s6.s
          clear e0 e1 e2 e3 e4 e5
          go_wp2_with fail
          refine (rwrite_s s6 (xl * 256 + 8 * (pgI xp % 16)) _ q0 hv hc0).mono ?_
          rintro e w7 ⟨rfl, s7⟩
          clear f0 f1 f2 f3 f4 f5 s6 s5
          go_wp2_with fail
          have s7d := s7.kept ((Only.refl _ w7).drew)
          refine wp_region_held_drew (S := fun w2' => Only (fun i => i = qr) w7.drew w2') (by kernel_rfl) (Only.refl _ _) (fun hHeld => ?_)
          generalize w7.drew = wd at s7d hHeld ⊢
          refine wpAnyH_take (i := 0) (v := ?_) rfl (by kernel_rfl) (by kernel_rfl) (by kernel_rfl) (fun _ _ _ h => h) (Or.inl ⟨by rfl, ?_⟩) hHeld ?_
          rotate_left
          · intro w2 hSw
            go_simp
            all_goals rfl
          simp only [Act.put, List.getElem_toArray, List.getElem_cons_zero, List.setIfInBounds_toArray, List.set_cons_zero, List.set_cons_succ]
          refine wpAnyH_take (i := 1) (v := ?_) rfl (by kernel_rfl) (by kernel_rfl) (by kernel_rfl) (fun _ _ _ h => h) (Or.inl ⟨by rfl, ?_⟩) hHeld ?_
          rotate_left
          · intro w2 hSw
            go_simp
            all_goals rfl
          simp only [Act.put, List.getElem_toArray, List.getElem_cons_zero, List.getElem_cons_succ, List.setIfInBounds_toArray, List.set_cons_zero, List.set_cons_succ]
          refine wpAnyH_take (i := 2) (v := ?_) rfl (by kernel_rfl) (by kernel_rfl) (by kernel_rfl) (fun _ _ _ h => h) (Or.inl ⟨by rfl, ?_⟩) hHeld ?_
          rotate_left
          · intro w2 hSw
            obtain ⟨f0, f1, f2, f3, f4, f5⟩ := s7d.s.carry hSw s7d.b2
            go_simp
            all_goals rfl
          simp only [Act.put, List.getElem_toArray, List.getElem_cons_zero, List.getElem_cons_succ, List.setIfInBounds_toArray, List.set_cons_zero, List.set_cons_succ]
          refine wpAnyH_take (i := 3) (v := ?_) rfl (by kernel_rfl) (by kernel_rfl) (by kernel_rfl) (fun _ _ _ h => h) (Or.inl ⟨by rfl, ?_⟩) hHeld ?_
          rotate_left
          · intro w2 hSw
            go_simp
            all_goals rfl
          simp only [Act.put, List.getElem_toArray, List.getElem_cons_zero, List.getElem_cons_succ, List.setIfInBounds_toArray, List.set_cons_zero, List.set_cons_succ]
          refine wpAnyH_take (i := 4) (v := ?_) rfl (by kernel_rfl) (by kernel_rfl) (by kernel_rfl) (fun _ _ _ h => h) (Or.inl ⟨by rfl, ?_⟩) hHeld ?_
          rotate_left
          · intro w2 hSw
            go_simp
            all_goals rfl
          simp only [Act.put, List.getElem_toArray, List.getElem_cons_zero, List.getElem_cons_succ, List.setIfInBounds_toArray, List.set_cons_zero, List.set_cons_succ]
          refine wpAnyH_take (i := 5) (v := ?_) rfl (by kernel_rfl) (by kernel_rfl) (by kernel_rfl) (fun _ _ _ h => h) (Or.inl ⟨by rfl, ?_⟩) hHeld ?_
          rotate_left
          · intro w2 hSw
            go_simp
            all_goals rfl
          simp only [Act.put, List.getElem_toArray, List.getElem_cons_zero, List.getElem_cons_succ, List.setIfInBounds_toArray, List.set_cons_zero, List.set_cons_succ]
          refine wpAnyH_take (i := 6) (v := ?_) rfl (by kernel_rfl) (by kernel_rfl) (by kernel_rfl) (fun _ _ _ h => h) (Or.inl ⟨by rfl, ?_⟩) hHeld ?_
          rotate_left
          · intro w2 hSw
            go_simp
            all_goals rfl
          simp only [Act.put, List.getElem_toArray, List.getElem_cons_zero, List.getElem_cons_succ, List.setIfInBounds_toArray, List.set_cons_zero, List.set_cons_succ]
          refine wpAnyH_take (i := 7) (v := ?_) rfl (by kernel_rfl) (by kernel_rfl) (by kernel_rfl) (fun _ _ _ h => h) (Or.inl ⟨by rfl, ?_⟩) hHeld ?_
          rotate_left
          · intro w2 hSw
            go_simp
            all_goals rfl
          simp only [Act.put, List.getElem_toArray, List.getElem_cons_zero, List.getElem_cons_succ, List.setIfInBounds_toArray, List.set_cons_zero, List.set_cons_succ]
          refine wpAnyH_take (i := 8) (v := ?_) rfl (by kernel_rfl) (by kernel_rfl) (by kernel_rfl) (fun _ _ _ h => h) (Or.inl ⟨by rfl, ?_⟩) hHeld ?_
          rotate_left
          · intro w2 hSw
            go_simp
            all_goals rfl
          simp only [Act.put, List.getElem_toArray, List.getElem_cons_zero, List.getElem_cons_succ, List.setIfInBounds_toArray, List.set_cons_zero, List.set_cons_succ]
          refine wpAnyH_take (i := 9) (v := ?_) rfl (by kernel_rfl) (by kernel_rfl) (by kernel_rfl) (fun _ _ _ h => h) (Or.inl ⟨by rfl, ?_⟩) hHeld ?_
          rotate_left
          · intro w2 hSw
            go_simp
            all_goals rfl
          simp only [Act.put, List.getElem_toArray, List.getElem_cons_zero, List.getElem_cons_succ, List.setIfInBounds_toArray, List.set_cons_zero, List.set_cons_succ]
          refine wpAnyH_take (i := 10) (v := ?_) rfl (by kernel_rfl) (by kernel_rfl) (by kernel_rfl) (fun _ _ _ h => h) (Or.inl ⟨by rfl, ?_⟩) hHeld ?_
          rotate_left
          · intro w2 hSw
            obtain ⟨f0, f1, f2, f3, f4, f5⟩ := s7d.s.carry hSw s7d.b2
            go_simp
            all_goals rfl
          simp only [Act.put, List.getElem_toArray, List.getElem_cons_zero, List.getElem_cons_succ, List.setIfInBounds_toArray, List.set_cons_zero, List.set_cons_succ]
          refine wpAnyH_ready (rs := [11]) (by kernel_rfl) (by simp) ?_
          refine AllReadyH.cons rfl (fun K hK => ?_) AllReadyH.nil
          go_simp
          refine (rmake_any _ _ _).mono ?_
          rintro e wy ⟨rfl, hwy⟩
          rw [hwy]
          clear hwy wy
          go_simp
          refine hK.out _ _ hHeld (fun hHeld => ?_)
          clear hK K
          try simp only [Act.put, List.setIfInBounds_toArray, List.set_cons_zero, List.set_cons_succ]
          refine wpAnyH_ready (rs := [12]) (by kernel_rfl) (by simp) ?_
          refine AllReadyH.cons rfl (fun K hK => ?_) AllReadyH.nil
          go_simp
          rw [wrap_at h1 h2 j6 j7]
          refine (rwrite_o s7d (xr * 256 + 8 * (pgI xp / 16)) (makI xl 1) q1 (U_made xl 1) hc1).mono ?_
          rintro e w9 ⟨rfl, s9, hs9⟩
          go_simp
          refine hK.out _ _ hs9 (fun hHeld => ?_)
          clear hK K
          refine wpAnyH_done (by kernel_rfl) ?_ _
          go_wp2
          have hk2 : k < L.length := hkeep
          rw [← lay_yes hlo] at s9
          exact ⟨⟨k + 1, _, by omega, by go_num, s9.t⟩, by simp [intOf]; omega⟩
    · obtain rfl : k = L.length := by omega
      go_wp2
      go_ret3
      exact ⟨pm, qm, pr, qr, B, rfl, ht⟩
end Go.Proofs.Ytagfhfmaonoehaa
