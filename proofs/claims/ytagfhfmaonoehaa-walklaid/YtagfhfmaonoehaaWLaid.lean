/-
  What statement WalkLaid asks: pages laid one after the other; walked for every two rows of bytes.
-/
import Derived.Test.YtagfhfmaonoehaaWkFace
import Derived.Test.YtagfhfmaonoehaaShell
import Derived.Test.YtagfhfmaonoehaaRowIs
import Derived.Deep.Slices
import Derived.Carry
import Derived.WideShapes
namespace Go.Proofs.Ytagfhfmaonoehaa
open Go.ChangeShapes Go.WideShapes Go.ChangeAt Go.RowKit Go.ChangeMaps
/-- Memory and what is wanted of each page. -/
structure InvL (B : Nat → Int) (want : Nat → Int) : Prop where
  top : ∀ t : Int, 0 ≤ t → t < 16 → entE B 1 t = 0 ∨ entE B 1 t = makI (2 + t) 1
  hit : ∀ p : Nat, p < 256 → want p ≠ 0 → entE B 1 ((p : Int) / 16) = makI (2 + (p : Int) / 16) 1
  ent : ∀ p : Nat, p < 256 → entE B (2 + (p : Int) / 16) ((p : Int) % 16) = want p
  leaf : ∀ p : Nat, want p ≠ 0 → leafE (want p) = true
theorem inv_zero : InvL (fun _ => 0) (fun _ => 0) := ⟨fun _ _ _ => .inl (ent_zero _ _), fun _ _ h => absurd rfl h, fun _ _ => ent_zero _ _, fun _ h => absurd rfl h⟩
theorem pg_id {P : Nat} (h : P < 256) : pgI (P : Int) = P := by
  unfold pgI mx mn
  rw [if_neg (show ¬ (255 : Int) < (P : Int) by omega)]
  split <;> omega
theorem inv_step {B : Nat → Int} {want : Nat → Int} (h : InvL B want) {P : Nat} (hP : P < 256) {e : Int} (he : U e) (hl : leafE e = true) : InvL (layT B 1 (2 + (P : Int) / 16) (P : Int) e) (fun j => if j = P then e else want j) := by
  have ho : layO 1 (2 + (P : Int) / 16) = true := decide_eq_true (by omega)
  have hx : ∀ f i, entE (layT B 1 (2 + (P : Int) / 16) (P : Int) e) f i = if f = 1 ∧ i = (P : Int) / 16 then makI (2 + (P : Int) / 16) 1 else if f = 2 + (P : Int) / 16 ∧ i = (P : Int) % 16 then e else entE B f i := fun f i => by rw [ent_lay ho he, pg_id hP]
  refine ⟨fun t t0 t1 => ?_, fun p hp hw => ?_, fun p hp => ?_, fun p hw => ?_⟩
  · rw [hx]
    by_cases e1 : t = (P : Int) / 16
    · rw [if_pos ⟨rfl, e1⟩, e1]; exact .inr rfl
    · rw [if_neg (fun x => e1 x.2), if_neg (by omega)]
      exact h.top t t0 t1
  · rw [hx]
    by_cases e1 : (p : Int) / 16 = (P : Int) / 16
    · rw [if_pos ⟨rfl, e1⟩, e1]
    · rw [if_neg (fun x => e1 x.2), if_neg (by omega)]
      rw [if_neg (by omega)] at hw
      exact h.hit p hp hw
  · rw [hx, if_neg (by omega)]
    by_cases e1 : p = P
    · rw [if_pos ⟨by rw [e1], by rw [e1]⟩, if_pos e1]
    · rw [if_neg (by omega), if_neg e1]
      exact h.ent p hp
  · split
    · exact hl
    · rename_i hn
      rw [if_neg hn] at hw
      exact h.leaf p hw
theorem wk_two' {B : Nat → Int} {root a p : Int} (h : a < 65536) (ho : entO root (topI a) = true) (he : entE B root (topI a) = makI p 1) (p0 : 0 ≤ p) (p1 : p ≤ 255) :
    wkS B root a = if entO p (lowI a) = false then ⟨0, 0, 2⟩ else if leafE (entE B p (lowI a)) = true then ⟨entE B p (lowI a), frI (entE B p (lowI a)), 0⟩ else ⟨0, 0, 1⟩ := by
  have hi : isE (makI p 1) = true := by rw [made_is p0 p1 (by omega) (by omega)]; decide
  have hf : leafE (makI p 1) = false := by rw [made_leaf p0 p1 (by omega) (by omega), hi]; decide
  unfold wkS
  rw [if_neg (by omega), if_neg (by rw [ho]; simp), he, if_neg (by rw [hi]; simp), if_neg (by rw [hf]; simp), made_frame p0 p1]
theorem wk_laid {B : Nat → Int} {want : Nat → Int} (h : InvL B want) {p : Nat} (hp : p < 256) : (wkS B 1 ((p : Int) * 256 + 17)).e = want p ∧ (wkS B 1 ((p : Int) * 256 + 17)).c = if want p = 0 then 1 else 0 := by
  have ht : topI ((p : Int) * 256 + 17) = (p : Int) / 16 := by unfold topI; omega
  have hl : lowI ((p : Int) * 256 + 17) = (p : Int) % 16 := by unfold lowI; omega
  have o1 : entO 1 ((p : Int) / 16) = true := decide_eq_true (by omega)
  have o2 : entO (2 + (p : Int) / 16) ((p : Int) % 16) = true := decide_eq_true (by omega)
  rcases h.top ((p : Int) / 16) (by omega) (by omega) with e | e
  · have hw : want p = 0 := by
      apply Classical.byContradiction
      intro hn
      have := h.hit p hp hn
      rw [e] at this
      unfold makI at this
      omega
    have hz : isE 0 = false := by decide
    unfold wkS
    rw [if_neg (by omega), ht, if_neg (by rw [o1]; simp), e, if_pos hz, hw]
    exact ⟨rfl, rfl⟩
  · rw [wk_two' (by omega) (by rw [ht]; exact o1) (by rw [ht]; exact e) (by omega) (by omega), hl, if_neg (by rw [o2]; simp), h.ent p hp]
    by_cases hw : want p = 0
    · rw [hw, if_neg (by decide)]
      exact ⟨rfl, rfl⟩
    · rw [if_pos (h.leaf p hw), if_neg hw]
      exact ⟨rfl, rfl⟩
/-- A row of bytes that comes in. -/
structure RowU (w : World) (q : Option Addr) (n : Nat) (L : Nat → Int) : Prop where
  lies : n = 0 ∨ ∃ b o, q = some ⟨b, o, none⟩ ∧ ∀ j, j < n → w.cell? ⟨b, o + j, none⟩ = some (.int .u8 (L j))
  bd : ∀ j, j < n → 0 ≤ L j ∧ L j ≤ 255
theorem cell_ltu {w : World} {b o : Nat} {v : Value} (h : w.cell? ⟨b, o, none⟩ = some v) : b < w.heap.size := by
  apply Classical.byContradiction
  intro hn
  rw [World.cell?] at h
  simp [Array.getElem?_eq_none (show w.heap.size ≤ b by omega)] at h
theorem Only.cell {S : Nat → Prop} {w w' : World} (g : Only S w w') {b o : Nat} {v : Value} (h : w.cell? ⟨b, o, none⟩ = some v) (hn : ¬ S b) : w'.cell? ⟨b, o, none⟩ = some v := by
  rw [World.cell?_of_block (w := w) (g.same b (cell_ltu h) hn)]; exact h
theorem want_zero : (Try.prog.info? 42).map (fun i => i.zero.map (·.cells)) = some (some (rowOf 256 fun _ => .int .u64 0)) := by kernel_rfl
abbrev WantAt (w : World) (g : Nat) (want : Nat → Int) : Prop := w.rowIs g 42 256 (fun j => .int .u64 (want j))
/-- A memory and the row of what is wanted, made by the call itself. -/
structure Laid2 (W w : World) (p q g : Nat) (B : Nat → Int) (want : Nat → Int) : Prop where
  s : St W w p q B
  r : WantAt w g want
  i : InvL B want
  hg : W.heap.size ≤ g
  n1 : g ≠ q
  n2 : p ≠ g
  n3 : q ≠ g
section
variable {W w : World} {p q g : Nat} {B want : Nat → Int}
theorem Laid2.kept {w' : World} (h : Laid2 W w p q g B want) (k : Kept w w') : Laid2 W w' p q g B want :=
  ⟨h.s.kept k, h.r.of_block (k.same g h.r.lt id), h.i, h.hg, h.n1, h.n2, h.n3⟩
theorem row_free {w : World} {b n : Nat} {t : TypeId} {f : Nat → Value} (h : w.rowIs b t n f) (i : Nat) : w.frozen? ⟨b, i, none⟩ = false := by
  obtain ⟨c, hb, _, _⟩ := h
  simp [World.frozen?, hb]
theorem Laid2.step (h : Laid2 W w p q g B want) {w9 : World} {B' : Nat → Int} (m9 : ProgAt w9 p q B') (o9 : Only (fun i => i = q) w w9) {P : Nat} {e : Int} (hi : InvL B' (fun j => if j = P then e else want j)) :
    Laid2 W (w9.setCell ⟨g, P, none⟩ (.int .u64 e)) p q g B' (fun j => if j = P then e else want j) := by
  have k9 : Kept W w9 := h.s.k.new o9 (fun i hi => by rw [hi]; exact h.s.hq)
  have ho := Only.setCell (Only.refl (fun j => j = g) w9) (x := ⟨g, P, none⟩) rfl (.int .u64 e)
  have r9 : WantAt w9 g want := h.r.of_block (o9.same g h.r.lt h.n1)
  refine ⟨⟨m9.carry ho h.n2 h.n3, k9.new ho (fun i hi => by rw [hi]; exact h.hg), h.s.hp, h.s.hq⟩, ?_, hi, h.hg, h.n1, h.n2, h.n3⟩
  refine (World.rowIs.set r9 P (.int .u64 e)).congr fun j _ => ?_
  by_cases ej : j = P <;> simp [ej]
end
theorem wrap_2p {P : Nat} (h : P < 256) : IntKind.i64.wrap (2 + IntKind.i64.wrap ((P : Int) / 16)) = 2 + (P : Int) / 16 := by
  rw [IntKind.wrap_i64, IntKind.wrap_i64]
  omega
theorem wrap_p {P : Nat} (h : P < 256) : IntKind.i64.wrap (P : Int) = P := by
  rw [IntKind.wrap_i64]
  omega
theorem leaf_223 {f : Int} (f0 : 0 ≤ f) (f1 : f ≤ 255) : leafE (makI f 223) = true := by
  rw [made_leaf f0 f1 (by omega) (by omega), made_is f0 f1 (by omega) (by omega)]; decide
set_option maxRecDepth 100000 in
set_option maxHeartbeats 4000000 in
theorem wlaid_short (qp qf : Option Addr) (n m cp cf : Nat) (LP LF : Nat → Int) (hn : n ≤ 20) (hm : n ≤ m) {W : World} (hP : RowU W qp n LP) (hF : RowU W qf m LF) (hT : Tab11 W) :
    Calls Try.prog 4 #[.slice qp n cp, .slice qf m cf] W fun e w' => e = .returned (.bool true) ∧ Kept W w' := by
  have l1 : ¬ (20 : Int) < (n : Int) := by omega
  have l2 : ¬ (m : Int) < (n : Int) := by omega
  go_enter Try.func4, Try.ntmps4
  go_wp2_with fail
  refine (known11_any hT (Only.refl _ W)).mono ?_
  rintro e w1 ⟨rfl, k1⟩
  go_wp2_with fail
  refine (new_from k1).mono ?_
  rintro e w2 ⟨p, q, rfl, s2⟩
  have t2 : Laid2 W (w2.alloc (.cells (rowOf 256 fun _ => .int .u64 0) 42)) p q w2.heap.size (fun _ => 0) (fun _ => 0) := by
    have hl := s2.m.lt
    exact ⟨s2.kept ((Only.refl _ w2).alloc _), row_alloc w2 256 _ _, inv_zero, s2.k.size, by omega, by omega, by omega⟩
  go_wp2_with (refine wpList_alloc_is rfl 42 rfl (rowOf 256 fun _ => .int .u64 0) want_zero ?_)
  generalize (w2.alloc (.cells (rowOf 256 fun _ => .int .u64 0) 42)) = w3 at t2 ⊢
  generalize w2.heap.size = g at t2 ⊢
  go_loopw [7] (fun i wr => ∃ (k : Nat) (B want : Nat → Int), k ≤ n ∧ i = .int .i64 (k : Int) ∧ Laid2 W wr p q g B want) (fun i _ => n - (intOf i).toNat)
  case atStart => exact ⟨0, _, _, Nat.zero_le _, rfl, t2⟩
  case round =>
    obtain ⟨k, B, want, hk, rfl, ht⟩ := hrel
    clear t2 s2
    by_cases hlt : k < n
    · rcases hP.lies with h0 | ⟨b, o, rfl, hpc⟩
      · omega
      rcases hF.lies with h0 | ⟨bf, of, rfl, hfc⟩
      · omega
      have hkeep : Hid (k < n) := hlt
      have hlt' : (k : Int) < (n : Int) := by omega
      have hlm' : (k : Int) < (m : Int) := by omega
      have hk0 : (0 : Int) ≤ (k : Int) := by omega
      have hk9 : (k : Int) ≤ 20 := by omega
      obtain ⟨p0, p1⟩ := hP.bd k hlt
      obtain ⟨f0, f1⟩ := hF.bd k (by omega)
      have pc0 := hpc k hlt
      have pc := Kept.cell ht.s.k pc0
      have fc := Kept.cell ht.s.k (hfc k (by omega))
      have hbq : ¬ b = q := by have := cell_ltu pc0; have := ht.s.hq; omega
      clear hpc hfc pc0 hP hF
      obtain ⟨P, hPe⟩ := Int.eq_ofNat_of_zero_le p0
      rw [hPe] at p0 p1 pc
      generalize LF k = F at f0 f1 fc
      clear hPe
      have hP2 : P < 256 := by omega
      have hlo : layO 1 (2 + (P : Int) / 16) = true := decide_eq_true (by omega)
      have r0 : 0 ≤ F % 128 := by omega
      have r1 : F % 128 < 128 := by omega
      have j0 : 0 ≤ (P : Int) / 16 := by omega
      have j1 : (P : Int) / 16 < 16 := by omega
      go_wp2_with fail
      refine (rmake_any _ _ _).mono ?_
      rintro e wy ⟨rfl, hwy⟩
      rw [hwy]
      clear hwy wy
      have hi := inv_step ht.i hP2 (U_made (F % 128) 223) (leaf_223 r0 (by omega))
      generalize hE : makI (F % 128) 223 = E at *
      have hU : U E := by rw [← hE]; exact U_made _ _
      go_wp2_with fail
      have htd := ht.kept ((Only.refl _ wr).drew)
      have hpd : wr.drew.cell? ⟨b, o + k, none⟩ = some (.int .u8 (P : Int)) := Kept.cell ((Only.refl _ wr).drew) pc
      refine wp_region_held_drew (S := fun w2' => Only (fun i => i = q) wr.drew w2') (by kernel_rfl) (Only.refl _ _) (fun hHeld => ?_)
      generalize wr.drew = wd at htd hpd hHeld ⊢
      refine wpAnyH_take (i := 0) (v := ?_) rfl (by kernel_rfl) (by kernel_rfl) (by kernel_rfl) (fun _ _ _ h => h) (Or.inl ⟨by rfl, ?_⟩) hHeld ?_
      rotate_left
      · intro w2 hSw
        go_simp
        all_goals rfl
      simp only [Act.put, List.getElem_toArray, List.getElem_cons_zero, List.setIfInBounds_toArray, List.set_cons_zero, List.set_cons_succ]
      refine wpAnyH_take (i := 1) (v := ?_) rfl (by kernel_rfl) (by kernel_rfl) (by kernel_rfl) (fun _ _ _ h => h) (Or.inl ⟨by rfl, ?_⟩) hHeld ?_
      rotate_left
      · intro w2 hSw
        go_simp
        all_goals rfl
      simp only [Act.put, List.getElem_toArray, List.getElem_cons_zero, List.getElem_cons_succ, List.setIfInBounds_toArray, List.set_cons_zero, List.set_cons_succ]
      refine wpAnyH_take (i := 2) (v := ?_) rfl (by kernel_rfl) (by kernel_rfl) (by kernel_rfl) (fun _ _ _ h => h) (Or.inl ⟨by rfl, ?_⟩) hHeld ?_
      rotate_left
      · intro w2 hSw
        go_simp
        all_goals rfl
      simp only [Act.put, List.getElem_toArray, List.getElem_cons_zero, List.getElem_cons_succ, List.setIfInBounds_toArray, List.set_cons_zero, List.set_cons_succ]
      refine wpAnyH_take (i := 3) (v := ?_) rfl (by kernel_rfl) (by kernel_rfl) (by kernel_rfl) (fun _ _ _ h => h) (Or.inl ⟨by rfl, ?_⟩) hHeld ?_
      rotate_left
      · intro w2 hSw
        go_simp
        all_goals rfl
      simp only [Act.put, List.getElem_toArray, List.getElem_cons_zero, List.getElem_cons_succ, List.setIfInBounds_toArray, List.set_cons_zero, List.set_cons_succ]
      refine wpAnyH_take (i := 4) (v := ?_) rfl (by kernel_rfl) (by kernel_rfl) (by kernel_rfl) (fun _ _ _ h => h) (Or.inl ⟨by rfl, ?_⟩) hHeld ?_
      rotate_left
      · intro w2 hSw
        have f0 := hSw.cell hpd hbq
        go_simp
        all_goals rfl
      simp only [Act.put, List.getElem_toArray, List.getElem_cons_zero, List.getElem_cons_succ, List.setIfInBounds_toArray, List.set_cons_zero, List.set_cons_succ]
      refine wpAnyH_take (i := 5) (v := ?_) rfl (by kernel_rfl) (by kernel_rfl) (by kernel_rfl) (fun _ _ _ h => h) (Or.inl ⟨by rfl, ?_⟩) hHeld ?_
      rotate_left
      · intro w2 hSw
        go_simp
        all_goals rfl
      simp only [Act.put, List.getElem_toArray, List.getElem_cons_zero, List.getElem_cons_succ, List.setIfInBounds_toArray, List.set_cons_zero, List.set_cons_succ]
      refine wpAnyH_take (i := 6) (v := ?_) rfl (by kernel_rfl) (by kernel_rfl) (by kernel_rfl) (fun _ _ _ h => h) (Or.inl ⟨by rfl, ?_⟩) hHeld ?_
      rotate_left
      · intro w2 hSw
        go_simp
        all_goals rfl
      simp only [Act.put, List.getElem_toArray, List.getElem_cons_zero, List.getElem_cons_succ, List.setIfInBounds_toArray, List.set_cons_zero, List.set_cons_succ]
      refine wpAnyH_take (i := 7) (v := ?_) rfl (by kernel_rfl) (by kernel_rfl) (by kernel_rfl) (fun _ _ _ h => h) (Or.inl ⟨by rfl, ?_⟩) hHeld ?_
      rotate_left
      · intro w2 hSw
        go_simp
        all_goals rfl
      simp only [Act.put, List.getElem_toArray, List.getElem_cons_zero, List.getElem_cons_succ, List.setIfInBounds_toArray, List.set_cons_zero, List.set_cons_succ]
      refine wpAnyH_take (i := 8) (v := ?_) rfl (by kernel_rfl) (by kernel_rfl) (by kernel_rfl) (fun _ _ _ h => h) (Or.inl ⟨by rfl, ?_⟩) hHeld ?_
      rotate_left
      · intro w2 hSw
        go_simp
        all_goals rfl
      simp only [Act.put, List.getElem_toArray, List.getElem_cons_zero, List.getElem_cons_succ, List.setIfInBounds_toArray, List.set_cons_zero, List.set_cons_succ]
      refine wpAnyH_take (i := 9) (v := ?_) rfl (by kernel_rfl) (by kernel_rfl) (by kernel_rfl) (fun _ _ _ h => h) (Or.inl ⟨by rfl, ?_⟩) hHeld ?_
      rotate_left
      · intro w2 hSw
        go_simp
        all_goals rfl
      simp only [Act.put, List.getElem_toArray, List.getElem_cons_zero, List.getElem_cons_succ, List.setIfInBounds_toArray, List.set_cons_zero, List.set_cons_succ]
      refine wpAnyH_take (i := 10) (v := ?_) rfl (by kernel_rfl) (by kernel_rfl) (by kernel_rfl) (fun _ _ _ h => h) (Or.inl ⟨by rfl, ?_⟩) hHeld ?_
      rotate_left
      · intro w2 hSw
        go_simp
        all_goals rfl
      simp only [Act.put, List.getElem_toArray, List.getElem_cons_zero, List.getElem_cons_succ, List.setIfInBounds_toArray, List.set_cons_zero, List.set_cons_succ]
      refine wpAnyH_take (i := 11) (v := ?_) rfl (by kernel_rfl) (by kernel_rfl) (by kernel_rfl) (fun _ _ _ h => h) (Or.inl ⟨by rfl, ?_⟩) hHeld ?_
      rotate_left
      · intro w2 hSw
        have f0 := hSw.cell hpd hbq
        go_simp
        all_goals rfl
      simp only [Act.put, List.getElem_toArray, List.getElem_cons_zero, List.getElem_cons_succ, List.setIfInBounds_toArray, List.set_cons_zero, List.set_cons_succ]
      refine wpAnyH_take (i := 12) (v := ?_) rfl (by kernel_rfl) (by kernel_rfl) (by kernel_rfl) (fun _ _ _ h => h) (Or.inl ⟨by rfl, ?_⟩) hHeld ?_
      rotate_left
      · intro w2 hSw
        go_simp
        all_goals rfl
      simp only [Act.put, List.getElem_toArray, List.getElem_cons_zero, List.getElem_cons_succ, List.setIfInBounds_toArray, List.set_cons_zero, List.set_cons_succ]
      refine wpAnyH_take (i := 13) (v := ?_) rfl (by kernel_rfl) (by kernel_rfl) (by kernel_rfl) (fun _ _ _ h => h) (Or.inl ⟨by rfl, ?_⟩) hHeld ?_
      rotate_left
      · intro w2 hSw
        go_simp
        all_goals rfl
      simp only [Act.put, List.getElem_toArray, List.getElem_cons_zero, List.getElem_cons_succ, List.setIfInBounds_toArray, List.set_cons_zero, List.set_cons_succ]
      refine wpAnyH_ready (rs := [14]) (by kernel_rfl) (by simp) ?_
      refine AllReadyH.cons rfl (fun K hK => ?_) AllReadyH.nil
      go_simp
      rw [wrap_2p hP2, wrap_p hP2]
      refine (wlay_any (hT.kept htd.s.k) htd.s.m 1 (2 + (P : Int) / 16) (P : Int) E hU).mono ?_
      rintro e w9 ⟨rfl, m9, o9⟩
      rw [hlo, cond_true]
      go_simp
      refine hK.out _ _ o9 (fun hHeld => ?_)
      clear hK K
      refine wpAnyH_take (i := 15) (v := ?_) rfl (by kernel_rfl) (by kernel_rfl) (by kernel_rfl) (fun _ _ _ h => h) (Or.inl ⟨by rfl, ?_⟩) hHeld ?_
      rotate_left
      · intro w2 hSw
        go_simp
        all_goals rfl
      simp only [Act.put, List.getElem_toArray, List.getElem_cons_zero, List.getElem_cons_succ, List.setIfInBounds_toArray, List.set_cons_zero, List.set_cons_succ]
      refine wpAnyH_done (by kernel_rfl) ?_ _
      have pc9 := o9.cell hpd hbq
      have r9 : WantAt w9 g want := htd.r.of_block (o9.same g htd.r.lt htd.n1)
      have c9 : w9.cell? ⟨g, P, none⟩ = some (.int .u64 (want P)) := r9.cell hP2
      have f9 := row_free r9 P
      go_wp2
      have hk2 : k < n := hkeep
      exact ⟨⟨k + 1, _, _, by omega, by go_num, htd.step m9 o9 hi⟩, by simp [intOf]; omega⟩
    · obtain rfl : k = n := by omega
      clear hP hF
      go_wp2
      go_loopw [9] (fun i ws => ∃ j : Nat, j ≤ 86 ∧ i = .int .i64 (3 * (j : Int)) ∧ Laid2 W ws p q g B want) (fun i _ => 258 - (intOf i).toNat)
      case atStart => exact ⟨0, by omega, rfl, ht⟩
      case round =>
        obtain ⟨j, hj, rfl, ht2⟩ := hrel
        by_cases hlt2 : j < 86
        · obtain ⟨x1, x2⟩ := wk_laid ht2.i (p := 3 * j) (by omega)
          have hc3 : ((3 * j : Nat) : Int) = 3 * (j : Int) := by omega
          rw [hc3] at x1 x2
          have hto : (3 * (j : Int)).toNat = 3 * j := by omega
          have j0 : 0 ≤ 3 * (j : Int) := by omega
          have j1 : 3 * (j : Int) < 256 := by omega
          have hU : U (3 * (j : Int) * 256 + 17) := by unfold U; omega
          have hkeep : Hid (j < 86) := hlt2
          go_wp2_with fail
          refine (wwalk_any (hT.kept ht2.s.k) ht2.s.m 1 _ hU).mono ?_
          rintro e w4 ⟨rfl, k4⟩
          have ht3 := ht2.kept k4
          have hcell : w4.cell? ⟨g, 3 * j, none⟩ = some (.int .u64 (want (3 * j))) := ht3.r.cell (by omega)
          rw [x1, x2]
          clear x1 x2 ht2 ht hlt2
          by_cases hw : want (3 * j) = 0
          · rw [hw] at hcell ⊢
            rw [if_pos rfl]
            clear hw
            go_wp2
            have hk2 : j < 86 := hkeep
            exact ⟨⟨j + 1, by omega, by rw [show (3 * ((j + 1 : Nat) : Int)) = 3 * (j : Int) + 3 by omega], ht3⟩, by simp [intOf]; omega⟩
          · have hn : (want (3 * j) != 0) = true := bne_iff_ne.2 hw
            have hq : (want (3 * j) != want (3 * j)) = false := bne_self_eq_false _
            rw [if_neg hw]
            clear hw
            generalize want (3 * j) = y at hcell hn hq ⊢
            go_wp2
            have hk2 : j < 86 := hkeep
            exact ⟨⟨j + 1, by omega, by rw [show (3 * ((j + 1 : Nat) : Int)) = 3 * (j : Int) + 3 by omega], ht3⟩, by simp [intOf]; omega⟩
        · obtain rfl : j = 86 := by omega
          have hU : U 65536 := by unfold U; omega
          have hc : (wkS B 1 65536).c = 1 := by unfold wkS; rw [if_pos (by omega)]
          clear ht
          go_wp2_with fail
          refine (wwalk_any (hT.kept ht2.s.k) ht2.s.m 1 _ hU).mono ?_
          rintro e w4 ⟨rfl, k4⟩
          rw [hc]
          go_wp2
          go_ret
          exact ⟨rfl, ht2.s.k.then k4⟩
def RowB (w : World) (v : Value) : Prop := ∃ q n cap L, v = .slice q n cap ∧ RowU w q n L
set_option maxHeartbeats 1000000 in
theorem wlaid_any (v0 v1 : Value) {W : World} (h0 : RowB W v0) (h1 : RowB W v1) (hT : Tab11 W) :
    Calls Try.prog 4 #[v0, v1] W fun e w' => e = .returned (.bool true) ∧ Kept W w' := by
  obtain ⟨qp, n, cp, LP, rfl, hP⟩ := h0
  obtain ⟨qf, m, cf, LF, rfl, hF⟩ := h1
  by_cases hn : n ≤ 20
  · by_cases hm : n ≤ m
    · exact wlaid_short qp qf n m cp cf LP LF hn hm hP hF hT
    · have l1 : ¬ (20 : Int) < (n : Int) := by omega
      have l2 : (m : Int) < (n : Int) := by omega
      clear hP hF hn hm
      go_enter Try.func4, Try.ntmps4
      go_wp2_with fail
      refine (known11_any hT (Only.refl _ W)).mono ?_
      rintro e w1 ⟨rfl, k1⟩
      go_wp2
      go_ret
      exact ⟨rfl, k1⟩
  · have l1 : (20 : Int) < (n : Int) := by omega
    clear hP hF hn
    go_enter Try.func4, Try.ntmps4
    go_wp2_with fail
    refine (known11_any hT (Only.refl _ W)).mono ?_
    rintro e w1 ⟨rfl, k1⟩
    go_wp2
    go_ret
    exact ⟨rfl, k1⟩
theorem cellsW8 : Try.prog.cellsOf 5 = 1 := by kernel_rfl
theorem plain_add8 (b o n : Nat) : (⟨b, o, none⟩ : Addr).add n = ⟨b, o + n, none⟩ := by unfold Addr.add; split <;> simp_all
set_option maxRecDepth 100000 in
theorem open_bytes {H : Type} {enc : TypeId × Value → H} {w : World} {r : Reach} {b0 base : Nat} {sp : Nat → Bool} {held : Bool} {v : Value} {d : DataW H} {p : List MemPlace}
    (hv : Value.okWide Try.prog w r b0 40 v) (h : DataW.Trod enc Try.prog w base sp held 40 v d p) : RowB w v := by
  obtain ⟨a, len, cap, rfl⟩ := okWide_slice Try.underlying40 hv
  obtain ⟨fuel, hf⟩ := h
  rcases Go.Deep.open_slice Try.underlying40 hf with ⟨h0, _⟩ | ⟨a', len', cap', m, n, D, Pl, h0, hb, hl, hm, hmm, hx, hel⟩
  · obtain ⟨rfl, rfl, rfl⟩ : a = none ∧ len = 0 ∧ cap = 0 := by simpa [Value.cells] using h0
    exact ⟨none, 0, 0, fun _ => 0, rfl, .inl rfl, fun j hj => by omega⟩
  · obtain ⟨rfl, rfl, rfl⟩ : a = some a' ∧ len = len' ∧ cap = cap' := by simpa [Value.cells] using h0
    have hlm : len ≤ m := by rw [hmm]; split <;> omega
    by_cases hz : len = 0
    · subst hz
      exact ⟨some a', 0, cap, fun _ => 0, rfl, .inl rfl, fun j hj => by omega⟩
    · have each : ∀ i, i < len → ∃ x : Int, w.cell? (a'.add i) = some (.int .u8 x) ∧ 0 ≤ x ∧ x ≤ 255 := by
        intro i hi
        obtain ⟨cs', h1, h2⟩ := hel i (by omega)
        rw [cellsW8] at h1
        obtain ⟨_, hlen, hcell⟩ := World.cells?_some h1
        obtain ⟨a0, e0, _, w0⟩ := DataW.trod_int Try.underlying5 h2
        subst e0
        have hc := hcell 0 (by decide)
        have h00 : ∀ a : Addr, a.add 0 = a := fun a => by unfold Addr.add; split <;> simp_all
        rw [h00, Nat.mul_one] at hc
        exact ⟨a0, hc, (u8_of_wf w0).1, (u8_of_wf w0).2⟩
      have hsp : a'.spot = none := by
        obtain ⟨x, hx, _⟩ := each 0 (by omega)
        simpa [Addr.add] using World.cell?_spot hx
      obtain ⟨b, o, s⟩ := a'
      simp only at hsp
      subst hsp
      obtain ⟨f, hf⟩ := Classical.axiomOfChoice (show ∀ i, ∃ x : Int, i < len → w.cell? ⟨b, o + i, none⟩ = some (.int .u8 x) ∧ 0 ≤ x ∧ x ≤ 255 from fun i => by
        by_cases hi : i < len
        · obtain ⟨x, k0, hu⟩ := each i hi
          rw [plain_add8] at k0
          exact ⟨x, fun _ => ⟨k0, hu⟩⟩
        · exact ⟨0, fun h => absurd h hi⟩)
      exact ⟨_, len, cap, f, rfl, .inr ⟨b, o, rfl, fun j hj => (hf j hj).1⟩, fun j hj => (hf j hj).2⟩
theorem carryB {H : Type} {enc : TypeId × Value → H} {W W' : World} {v : Value} {d : DataW H} {p : List MemPlace} {sp : Nat → Bool} (h : DataW.Trod enc Try.prog W 0 (fun _ => true) true 40 v d p) (hg : Kept W W') (hlt : ∀ x ∈ p, x.block < W.heap.size) (hsp : ∀ x ∈ p, sp x.block = true) :
    DataW.Trod enc Try.prog W' 0 sp true 40 v d p :=
  WideElems.Trod_stays (by kernel_rfl) (by kernel_rfl) (of_decide_eq_true (by kernel_rfl)) h (fun x hx => by
    cases x with
    | cell b o => exact World.cell?_of_block (w := W) (hg.same _ (hlt _ hx) id)
    | map b => exact hg.same _ (hlt _ hx) id) hsp
end Go.Proofs.Ytagfhfmaonoehaa
