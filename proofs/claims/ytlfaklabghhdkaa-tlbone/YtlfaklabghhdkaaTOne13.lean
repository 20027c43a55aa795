/-
  What statement TlbOne asks: walked over the contracts.
-/
import Derived.Test.YtlfaklabghhdkaaTlFace
import Derived.Test.YtlfaklabghhdkaaOneMath
import Derived.Test.YtlfaklabghhdkaaOBytes
import Derived.Deep.RegionHeld3
import Derived.Deep.CutRange
namespace Go.Proofs.Ytlfaklabghhdkaa
open Go.RowKit
theorem cell_past {w w' : World} {b g o : Nat} {v : Value} (h : w.cell? ⟨g, o, none⟩ = some v) (k : Only (fun i => i = b) w w') (hn : g ≠ b) : w'.cell? ⟨g, o, none⟩ = some v := by
  rw [World.cell?_of_block (w := w) (a := ⟨g, o, none⟩) (k.same g (cell_ltu h) hn)]; exact h
def qOf : Value → Option Addr
  | .slice q _ _ => q
  | _ => none
def capOf : Value → Nat
  | .slice _ _ c => c
  | _ => 0
set_option maxRecDepth 100000 in
set_option maxHeartbeats 8000000 in
theorem tone_short (qp qf : Option Addr) (n m cp cf : Nat) (L F : Nat → Int) (hn : n ≤ 100) (hm : n ≤ m) {W : World} (hP : RowU W qp n L) (hF : RowU W qf m F) (hT : Tab13 W) :
    Calls Try.prog 4 #[.slice qp n cp, .slice qf m cf] W fun e w' => e = .returned (.bool true) ∧ Kept W w' := by
  have l1 : ¬ (100 : Int) < (n : Int) := by omega
  have l2 : ¬ (m : Int) < (n : Int) := by omega
  go_enter Try.func4, Try.ntmps4
  go_wp2_with fail
  refine (known13_any hT (Only.refl _ W)).mono ?_
  rintro e w1 ⟨rfl, k1⟩
  go_wp2_with fail
  refine (tnew_any (hT.kept k1)).mono ?_
  rintro e w2 ⟨b, rfl, m2, hb2, k2⟩
  have s2 : St13 W w2 b noneT := ⟨m2, k1.then k2, Nat.le_trans k1.size hb2⟩
  clear m2 hb2 k2 k1
  go_wp2_with fail
  go_loopw [6] (fun i wr => ∃ (j : Nat) (T : Nat → EntM), j ≤ n ∧ i = .int .i64 (j : Int) ∧ St13 W wr b T ∧ InvT T) (fun i _ => n - (intOf i).toNat)
  case atStart => exact ⟨0, noneT, by omega, rfl, s2, inv_none⟩
  case round =>
    obtain ⟨i, T, hi, rfl, si, hI⟩ := hrel
    clear s2
    by_cases hlt : i < n
    · rcases hP.lies with h0 | ⟨g, o, rfl, hpc⟩
      · omega
      rcases hF.lies with h0 | ⟨gf, of, rfl, hfc⟩
      · omega
      have hkeep : i < n := hlt
      have hlt' : (i : Int) < (n : Int) := by omega
      have hlm' : (i : Int) < (m : Int) := by omega
      have hi0 : (0 : Int) ≤ (i : Int) := by omega
      have hi9 : (i : Int) ≤ 100 := by omega
      obtain ⟨p0, p1⟩ := hP.bd i hlt
      obtain ⟨f0, f1⟩ := hF.bd i (by omega)
      have pc := Kept.cell si.k (hpc i hlt)
      have fc := Kept.cell si.k (hfc i (by omega))
      have hgf : gf ≠ b := by have := cell_ltu (hfc i (by omega)); have := si.hb; omega
      clear hpc hfc hP hF hlt
      have q1 : IntKind.i64.wrap ((L i).tmod 40) = L i % 40 := by rw [Int.tmod_eq_emod_of_nonneg p0, IntKind.wrap_i64]; omega
      have q2 : IntKind.i64.wrap (IntKind.u8.wrap ((L i).tdiv 128)) = L i / 128 := by
        have u : IntKind.u8.wrap (L i / 128) = L i / 128 := by rw [IntKind.wrap_u8]; omega
        rw [Int.tdiv_eq_ediv_of_nonneg p0, u, IntKind.wrap_i64]; omega
      have q3 : IntKind.i64.wrap (F i) = F i := by rw [IntKind.wrap_i64]; omega
      go_upto_region 9 with fail
      refine wp_region_held_drew (S := fun w2 => Kept wr.drew w2) (by kernel_rfl) (Only.refl _ _) (fun hHeld => ?_)
      refine wpAnyH_take (i := 0) (v := ?_) rfl (by kernel_rfl) (by kernel_rfl) (by kernel_rfl) (fun _ _ _ h => h) (Or.inl ⟨by rfl, ?_⟩) hHeld ?_
      rotate_left
      · intro w2 hSw
        go_simp
        all_goals rfl
      try simp only [Act.put, List.getElem_toArray, List.getElem_cons_zero, List.setIfInBounds_toArray, List.set_cons_zero, List.set_cons_succ]
      refine wpAnyH_take (i := 1) (v := ?_) rfl (by kernel_rfl) (by kernel_rfl) (by kernel_rfl) (fun _ _ _ h => h) (Or.inl ⟨by rfl, ?_⟩) hHeld ?_
      rotate_left
      · intro w2 hSw
        go_simp
        all_goals rfl
      try simp only [Act.put, List.getElem_toArray, List.getElem_cons_zero, List.getElem_cons_succ, List.setIfInBounds_toArray, List.set_cons_zero, List.set_cons_succ]
      refine wpAnyH_take (i := 2) (v := ?_) rfl (by kernel_rfl) (by kernel_rfl) (by kernel_rfl) (fun _ _ _ h => h) (Or.inl ⟨by rfl, ?_⟩) hHeld ?_
      rotate_left
      · intro w2 hSw
        go_simp
        all_goals rfl
      try simp only [Act.put, List.getElem_toArray, List.getElem_cons_zero, List.getElem_cons_succ, List.setIfInBounds_toArray, List.set_cons_zero, List.set_cons_succ]
      refine wpAnyH_take (i := 3) (v := .int .u8 (L i)) rfl (by kernel_rfl) (by kernel_rfl) (by kernel_rfl) (fun _ _ _ h => h) (Or.inl ⟨by rfl, ?_⟩) hHeld ?_
      · intro w2 hSw
        exact exec_load rfl rfl (run_loadVar_cell9 (Kept.cell ((((Only.refl _ wr).drew)).then hSw) pc) rfl Try.underlying5)
      try simp only [Act.put, List.getElem_toArray, List.getElem_cons_zero, List.getElem_cons_succ, List.setIfInBounds_toArray, List.set_cons_zero, List.set_cons_succ]
      refine wpAnyH_take (i := 4) (v := ?_) rfl (by kernel_rfl) (by kernel_rfl) (by kernel_rfl) (fun _ _ _ h => h) (Or.inl ⟨by rfl, ?_⟩) hHeld ?_
      rotate_left
      · intro w2 hSw
        go_simp
        all_goals rfl
      try simp only [Act.put, List.getElem_toArray, List.getElem_cons_zero, List.getElem_cons_succ, List.setIfInBounds_toArray, List.set_cons_zero, List.set_cons_succ]
      refine wpAnyH_take (i := 5) (v := ?_) rfl (by kernel_rfl) (by kernel_rfl) (by kernel_rfl) (fun _ _ _ h => h) (Or.inl ⟨by rfl, ?_⟩) hHeld ?_
      rotate_left
      · intro w2 hSw
        go_simp
        all_goals rfl
      try simp only [Act.put, List.getElem_toArray, List.getElem_cons_zero, List.getElem_cons_succ, List.setIfInBounds_toArray, List.set_cons_zero, List.set_cons_succ]
      refine wpAnyH_take (i := 6) (v := ?_) rfl (by kernel_rfl) (by kernel_rfl) (by kernel_rfl) (fun _ _ _ h => h) (Or.inl ⟨by rfl, ?_⟩) hHeld ?_
      rotate_left
      · intro w2 hSw
        go_simp
        all_goals rfl
      try simp only [Act.put, List.getElem_toArray, List.getElem_cons_zero, List.getElem_cons_succ, List.setIfInBounds_toArray, List.set_cons_zero, List.set_cons_succ]
      refine wpAnyH_take (i := 7) (v := ?_) rfl (by kernel_rfl) (by kernel_rfl) (by kernel_rfl) (fun _ _ _ h => h) (Or.inl ⟨by rfl, ?_⟩) hHeld ?_
      rotate_left
      · intro w2 hSw
        go_simp
        all_goals rfl
      try simp only [Act.put, List.getElem_toArray, List.getElem_cons_zero, List.getElem_cons_succ, List.setIfInBounds_toArray, List.set_cons_zero, List.set_cons_succ]
      refine wpAnyH_take (i := 8) (v := ?_) rfl (by kernel_rfl) (by kernel_rfl) (by kernel_rfl) (fun _ _ _ h => h) (Or.inl ⟨by rfl, ?_⟩) hHeld ?_
      rotate_left
      · intro w2 hSw
        go_simp
        all_goals rfl
      try simp only [Act.put, List.getElem_toArray, List.getElem_cons_zero, List.getElem_cons_succ, List.setIfInBounds_toArray, List.set_cons_zero, List.set_cons_succ]
      refine wpAnyH_take (i := 9) (v := ?_) rfl (by kernel_rfl) (by kernel_rfl) (by kernel_rfl) (fun _ _ _ h => h) (Or.inl ⟨by rfl, ?_⟩) hHeld ?_
      rotate_left
      · intro w2 hSw
        go_simp
        all_goals rfl
      try simp only [Act.put, List.getElem_toArray, List.getElem_cons_zero, List.getElem_cons_succ, List.setIfInBounds_toArray, List.set_cons_zero, List.set_cons_succ]
      refine wpAnyH_take (i := 10) (v := .int .u8 (L i)) rfl (by kernel_rfl) (by kernel_rfl) (by kernel_rfl) (fun _ _ _ h => h) (Or.inl ⟨by rfl, ?_⟩) hHeld ?_
      · intro w2 hSw
        exact exec_load rfl rfl (run_loadVar_cell9 (Kept.cell ((((Only.refl _ wr).drew)).then hSw) pc) rfl Try.underlying5)
      try simp only [Act.put, List.getElem_toArray, List.getElem_cons_zero, List.getElem_cons_succ, List.setIfInBounds_toArray, List.set_cons_zero, List.set_cons_succ]
      refine wpAnyH_take (i := 11) (v := ?_) rfl (by kernel_rfl) (by kernel_rfl) (by kernel_rfl) (fun _ _ _ h => h) (Or.inl ⟨by rfl, ?_⟩) hHeld ?_
      rotate_left
      · intro w2 hSw
        go_simp
        all_goals rfl
      try simp only [Act.put, List.getElem_toArray, List.getElem_cons_zero, List.getElem_cons_succ, List.setIfInBounds_toArray, List.set_cons_zero, List.set_cons_succ]
      refine wpAnyH_take (i := 12) (v := ?_) rfl (by kernel_rfl) (by kernel_rfl) (by kernel_rfl) (fun _ _ _ h => h) (Or.inl ⟨by rfl, ?_⟩) hHeld ?_
      rotate_left
      · intro w2 hSw
        go_simp
        all_goals rfl
      try simp only [Act.put, List.getElem_toArray, List.getElem_cons_zero, List.getElem_cons_succ, List.setIfInBounds_toArray, List.set_cons_zero, List.set_cons_succ]
      refine wpAnyH_take (i := 13) (v := ?_) rfl (by kernel_rfl) (by kernel_rfl) (by kernel_rfl) (fun _ _ _ h => h) (Or.inl ⟨by rfl, ?_⟩) hHeld ?_
      rotate_left
      · intro w2 hSw
        go_simp
        all_goals rfl
      try simp only [Act.put, List.getElem_toArray, List.getElem_cons_zero, List.getElem_cons_succ, List.setIfInBounds_toArray, List.set_cons_zero, List.set_cons_succ]
      try rw [q1, q2]
      refine wpAnyH_ready (rs := [14]) (by kernel_rfl) (by simp) ?_
      refine AllReadyH.cons rfl (fun K hK => ?_) AllReadyH.nil
      rw [if_pos (by rfl)]
      refine wp_alloc_go _ rfl _ ent_zero' ?_
      intro eb wa na ka ma ea
      have la := hHeld.size
      rw [na] at la
      refine hK.out _ _ (hHeld.then ka) (fun hHeld => ?_)
      clear hK K
      try simp only [Act.put, List.getElem_toArray, List.getElem_cons_zero, List.getElem_cons_succ, List.setIfInBounds_toArray, List.set_cons_zero, List.set_cons_succ]
      refine wpAnyH_ready (rs := [15]) (by kernel_rfl) (by simp) ?_
      refine AllReadyH.cons rfl (fun K hK => ?_) AllReadyH.nil
      rw [if_pos (by rfl)]
      refine wp_store_go _ _ _ rfl eb (entA (oneE (L i % 40) (L i / 128) i)).toArray rfl rfl ea (ent_size' _) ((ent_len _).trans (ent_len _).symm) (ent_ones' _) ?_
      intro w5 os e5
      have hH := hHeld.new os fun i hi => by omega
      refine hK.out _ _ hH (fun hHeld => ?_)
      clear hK K
      try simp only [Act.put, List.getElem_toArray, List.getElem_cons_zero, List.getElem_cons_succ]
      refine wpAnyH_done (by kernel_rfl) ?_ _
      have k5 : Kept wr w5 := ((Only.refl _ wr).drew).then hH
      have s5 := si.kept k5
      have heb : ¬ eb = b := by
        have h1 := si.m.lt
        have h2 := ((Only.refl (fun _ => False) wr).drew).size
        omega
      have fc5 := Kept.cell k5 fc
      clear si k5 hH ea la ka na ma os pc fc q1 q2
      have hI2 := inv_fill hI (L i % 40) (L i / 128) i (F i)
      obtain ⟨hlook, his⟩ := look_fill hI (L i % 40) (L i / 128) i (F i)
      clear hI
      go_upto_region 10 with fail
      have ed := e5.kept ((Only.refl _ w5).drew)
      have sd := s5.kept ((Only.refl _ w5).drew)
      refine wp_region_held_drew (S := fun w2 => Only (fun i => i = b) w5.drew w2) (by kernel_rfl) (Only.refl _ _) (fun hHeld => ?_)
      refine wpAnyH_take (i := 0) (v := ?_) rfl (by kernel_rfl) (by kernel_rfl) (by kernel_rfl) (fun _ _ _ h => h) (Or.inl ⟨by rfl, ?_⟩) hHeld ?_
      rotate_left
      · intro w2 hSw
        go_simp
        all_goals rfl
      try simp only [Act.put, List.getElem_toArray, List.getElem_cons_zero, List.setIfInBounds_toArray, List.set_cons_zero, List.set_cons_succ]
      refine wpAnyH_take (i := 1) (v := .agg (entA (oneE (L i % 40) (L i / 128) i)).toArray) rfl (by kernel_rfl) (by kernel_rfl) (by kernel_rfl) (fun _ _ _ h => h) (Or.inl ⟨by rfl, ?_⟩) hHeld ?_
      · intro w2 hSw
        exact exec_load rfl rfl (run_loadVar_mid w2 eb 0 _ (entA (oneE (L i % 40) (L i / 128) i)) _ (Blk.range (hSw.block ed heb)) Try.underlying28 rfl (ent_size' _))
      try simp only [Act.put, List.getElem_toArray, List.getElem_cons_zero, List.getElem_cons_succ, List.setIfInBounds_toArray, List.set_cons_zero, List.set_cons_succ]
      refine wpAnyH_take (i := 2) (v := ?_) rfl (by kernel_rfl) (by kernel_rfl) (by kernel_rfl) (fun _ _ _ h => h) (Or.inl ⟨by rfl, ?_⟩) hHeld ?_
      rotate_left
      · intro w2 hSw
        go_simp
        all_goals rfl
      try simp only [Act.put, List.getElem_toArray, List.getElem_cons_zero, List.getElem_cons_succ, List.setIfInBounds_toArray, List.set_cons_zero, List.set_cons_succ]
      refine wpAnyH_take (i := 3) (v := ?_) rfl (by kernel_rfl) (by kernel_rfl) (by kernel_rfl) (fun _ _ _ h => h) (Or.inl ⟨by rfl, ?_⟩) hHeld ?_
      rotate_left
      · intro w2 hSw
        go_simp
        all_goals rfl
      try simp only [Act.put, List.getElem_toArray, List.getElem_cons_zero, List.getElem_cons_succ, List.setIfInBounds_toArray, List.set_cons_zero, List.set_cons_succ]
      refine wpAnyH_take (i := 4) (v := ?_) rfl (by kernel_rfl) (by kernel_rfl) (by kernel_rfl) (fun _ _ _ h => h) (Or.inl ⟨by rfl, ?_⟩) hHeld ?_
      rotate_left
      · intro w2 hSw
        go_simp
        all_goals rfl
      try simp only [Act.put, List.getElem_toArray, List.getElem_cons_zero, List.getElem_cons_succ, List.setIfInBounds_toArray, List.set_cons_zero, List.set_cons_succ]
      refine wpAnyH_take (i := 5) (v := .int .u8 (F i)) rfl (by kernel_rfl) (by kernel_rfl) (by kernel_rfl) (fun _ _ _ h => h) (Or.inl ⟨by rfl, ?_⟩) hHeld ?_
      · intro w2 hSw
        exact exec_load rfl rfl (run_loadVar_cell9 (cell_past (Kept.cell ((Only.refl _ w5).drew) fc5) hSw hgf) rfl Try.underlying5)
      try simp only [Act.put, List.getElem_toArray, List.getElem_cons_zero, List.getElem_cons_succ, List.setIfInBounds_toArray, List.set_cons_zero, List.set_cons_succ]
      refine wpAnyH_take (i := 6) (v := ?_) rfl (by kernel_rfl) (by kernel_rfl) (by kernel_rfl) (fun _ _ _ h => h) (Or.inl ⟨by rfl, ?_⟩) hHeld ?_
      rotate_left
      · intro w2 hSw
        go_simp
        all_goals rfl
      try simp only [Act.put, List.getElem_toArray, List.getElem_cons_zero, List.getElem_cons_succ, List.setIfInBounds_toArray, List.set_cons_zero, List.set_cons_succ]
      try rw [q3]
      refine wpAnyH_ready (rs := [7]) (by kernel_rfl) (by simp) ?_
      refine AllReadyH.cons rfl (fun K hK => ?_) AllReadyH.nil
      go_simp
      refine (tfill_any (hT.kept sd.k) sd.m (oneE (L i % 40) (L i / 128) i) (F i)).mono ?_
      rintro r w6 ⟨rfl, m6, g6⟩
      go_simp
      refine hK.out _ _ (hHeld.trans g6) (fun hHeld => ?_)
      clear hK K
      try simp only [Act.put, List.getElem_toArray, List.getElem_cons_zero, List.getElem_cons_succ, List.setIfInBounds_toArray, List.set_cons_zero, List.set_cons_succ]
      refine wpAnyH_done (by kernel_rfl) ?_ _
      have s6 := sd.turn g6 m6
      have e6 : Blk w6 eb 28 (entA (oneE (L i % 40) (L i / 128) i)).toArray := g6.block ed heb
      clear ed sd m6 g6 e5 s5 hHeld fc5
      generalize fillT T (oneE (L i % 40) (L i / 128) i) (F i) = T2 at *
      have x2 : _ = some (Value.int .i64 (L i % 40)) := e6.cell 2
      have x3 : _ = some (Value.int .i64 (L i / 128)) := e6.cell 3
      generalize oneE (L i % 40) (L i / 128) i = E at *
      generalize L i % 40 = pg at *
      generalize L i / 128 = ac at *
      go_upto_region 12 with (first | (go_at_call 16; refine (tlook_any (hT.kept s6.k) s6.m pg false ac 0).mono ?_; rintro r w8 ⟨rfl, k8⟩; rw [hlook, his]) | (refine wpList_alloc_go rfl 28 rfl (entA entNone).toArray ent_zero' ?_; intro fb w9 n9 k9 m9 f9) | (refine wpList_store_go rfl 28 _ _ rfl fb (entA E).toArray rfl rfl f9 (ent_size' _) ((ent_len _).trans (ent_len _).symm) (ent_ones' _) ?_; intro w10 o10 f10))
      have kk : Kept w6 w10 := (k8.then k9).new o10 fun i hi => by have := k8.size; omega
      have s10 := s6.kept kk
      have e10 := e6.kept kk
      clear s6 e6 x2 x3 kk k8 k9 o10 f9 hlook his
      go_wp2_with fail
      refine (tall_any (hT.kept s10.k) s10.m).mono ?_
      rintro r w11 ⟨v11, rfl, ow, k11⟩
      have s11 := s10.kept k11
      have e11 := e10.kept k11
      have f11 := f10.kept k11
      have hlen := all_len T2 16 0
      have hl16 : (allT T2).length ≤ 16 := hlen
      have hap : ∀ k j (hk : k < (allT T2).length) (hj : j < (allT T2).length), j < k → ¬ ((allT T2)[k].page = (allT T2)[j].page ∧ (allT T2)[k].asid = (allT T2)[j].asid) := fun k j hk _ h => all_apart hI2 k j hk h
      have hrow : ∀ x (h : x < (allT T2).length), ∃ g, v11 = .slice (some ⟨g, 0, none⟩) (allT T2).length (capOf v11) ∧ w11.cell? ⟨g, x * 9 + 2, none⟩ = some (.int .i64 (allT T2)[x].page) ∧ w11.cell? ⟨g, x * 9 + 3, none⟩ = some (.int .i64 (allT T2)[x].asid) := by
        intro x h
        obtain ⟨g, cap, e, _, hr⟩ := ow.range x h
        exact ⟨g, by rw [e]; rfl, hr 2 _ rfl, hr 3 _ rfl⟩
      obtain ⟨q11, p11, rfl⟩ := ow.form
      clear ow s10 e10 f10 k11 hlen
      generalize allT T2 = LL at *
      have hq := fun w => ne_self9 E w
      have hgt : ¬ (16 : Int) < (LL.length : Int) := by omega
      go_wp2_with (first | (refine wpList_load_blk (by rfl) 28 _ rfl fb rfl f11 _ Try.underlying28 rfl (ent_size' _) ?_) | (refine wpList_load_blk (by rfl) 28 _ rfl eb rfl e11 _ Try.underlying28 rfl (ent_size' _) ?_))
      clear hq hgt f11 e11
      go_loopw [11] (fun x wk => ∃ k : Nat, k ≤ LL.length ∧ x = .int .i64 (k : Int) ∧ Kept w11 wk) (fun x _ => LL.length - (intOf x).toNat)
      case atStart => exact ⟨0, by omega, rfl, Only.refl _ _⟩
      case round =>
        obtain ⟨k, hk, rfl, hgk⟩ := hrel
        obtain ⟨wk, rfl⟩ : ∃ wk, wk = wr := ⟨_, rfl⟩
        by_cases hkl : k < LL.length
        · have hkl' : (k : Int) < (LL.length : Int) := by omega
          have hk0 : (0 : Int) ≤ (k : Int) := by omega
          have hk9 : (k : Int) ≤ 16 := by omega
          have hkk : k < LL.length := hkl
          go_wp2_with fail
          go_loopw [12] (fun x wj => ∃ j : Nat, j ≤ k ∧ x = .int .i64 (j : Int) ∧ Kept w11 wj) (fun x _ => k - (intOf x).toNat)
          case atStart => exact ⟨0, by omega, rfl, hgk⟩
          case round =>
            obtain ⟨j, hj, rfl, hgj⟩ := hrel
            by_cases hjl : j < k
            · have hjl' : (j : Int) < (k : Int) := by omega
              have hj0 : (0 : Int) ≤ (j : Int) := by omega
              have hjn : (j : Int) < (LL.length : Int) := by omega
              obtain ⟨g1, e1, a1, a2⟩ := hrow k hkk
              obtain ⟨g2, e2, b1, b2⟩ := hrow j (by omega)
              have hne := hap k j hkk (by omega) hjl
              have hq1 : q11 = some ⟨g1, 0, none⟩ := congrArg qOf e1
              have hq2 : q11 = some ⟨g2, 0, none⟩ := congrArg qOf e2
              rw [hq1] at hq2
              obtain rfl : g1 = g2 := by simpa using hq2
              clear e1 e2 hrow hq2
              subst hq1
              obtain ⟨wj, rfl⟩ : ∃ wj, wj = wr := ⟨_, rfl⟩
              have a1j := Kept.cell hgj a1
              have a2j := Kept.cell hgj a2
              have b1j := Kept.cell hgj b1
              have b2j := Kept.cell hgj b2
              have hkeep2 : j < k := hjl
              generalize LL[k].page = pk at *
              generalize LL[j].page = pj at *
              generalize LL[k].asid = ak at *
              generalize LL[j].asid = aj at *
              clear a1 a2 b1 b2 hap hjl
              cases ce : pk == pj
              · go_upto_region 21 with fail
                refine wp_region_held_drew (S := fun w2 => Kept wj.drew w2) (by kernel_rfl) (Only.refl _ _) (fun hHeld => ?_)
                refine wpAnyH_take (i := 0) (v := ?_) rfl (by kernel_rfl) (by kernel_rfl) (by kernel_rfl) (fun _ _ _ h => h) (Or.inl ⟨by rfl, ?_⟩) hHeld ?_
                rotate_left
                · intro w2 hSw
                  go_simp
                  all_goals rfl
                try simp only [Act.put, List.getElem_toArray, List.getElem_cons_zero, List.setIfInBounds_toArray, List.set_cons_zero, List.set_cons_succ]
                refine wpAnyH_take (i := 1) (v := ?_) rfl (by kernel_rfl) (by kernel_rfl) (by kernel_rfl) (fun _ _ _ h => h) (Or.inl ⟨by rfl, ?_⟩) hHeld ?_
                rotate_left
                · intro w2 hSw
                  go_simp
                  all_goals rfl
                try simp only [Act.put, List.getElem_toArray, List.getElem_cons_zero, List.getElem_cons_succ, List.setIfInBounds_toArray, List.set_cons_zero, List.set_cons_succ]
                refine wpAnyH_take (i := 2) (v := ?_) rfl (by kernel_rfl) (by kernel_rfl) (by kernel_rfl) (fun _ _ _ h => h) (Or.inl ⟨by rfl, ?_⟩) hHeld ?_
                rotate_left
                · intro w2 hSw
                  go_simp
                  all_goals rfl
                try simp only [Act.put, List.getElem_toArray, List.getElem_cons_zero, List.getElem_cons_succ, List.setIfInBounds_toArray, List.set_cons_zero, List.set_cons_succ]
                refine wpAnyH_take (i := 3) (v := ?_) rfl (by kernel_rfl) (by kernel_rfl) (by kernel_rfl) (fun _ _ _ h => h) (Or.inl ⟨by rfl, ?_⟩) hHeld ?_
                rotate_left
                · intro w2 hSw
                  go_simp
                  all_goals rfl
                try simp only [Act.put, List.getElem_toArray, List.getElem_cons_zero, List.getElem_cons_succ, List.setIfInBounds_toArray, List.set_cons_zero, List.set_cons_succ]
                refine wpAnyH_take (i := 4) (v := .int .i64 pk) rfl (by kernel_rfl) (by kernel_rfl) (by kernel_rfl) (fun _ _ _ h => h) (Or.inl ⟨by rfl, ?_⟩) hHeld ?_
                · intro w2 hSw
                  exact exec_load rfl rfl (run_loadVar_cell9 (Kept.cell ((((Only.refl _ wj).drew)).then hSw) a1j) rfl Try.underlying3)
                try simp only [Act.put, List.getElem_toArray, List.getElem_cons_zero, List.getElem_cons_succ, List.setIfInBounds_toArray, List.set_cons_zero, List.set_cons_succ]
                refine wpAnyH_take (i := 5) (v := ?_) rfl (by kernel_rfl) (by kernel_rfl) (by kernel_rfl) (fun _ _ _ h => h) (Or.inl ⟨by rfl, ?_⟩) hHeld ?_
                rotate_left
                · intro w2 hSw
                  go_simp
                  all_goals rfl
                try simp only [Act.put, List.getElem_toArray, List.getElem_cons_zero, List.getElem_cons_succ, List.setIfInBounds_toArray, List.set_cons_zero, List.set_cons_succ]
                refine wpAnyH_take (i := 6) (v := ?_) rfl (by kernel_rfl) (by kernel_rfl) (by kernel_rfl) (fun _ _ _ h => h) (Or.inl ⟨by rfl, ?_⟩) hHeld ?_
                rotate_left
                · intro w2 hSw
                  go_simp
                  all_goals rfl
                try simp only [Act.put, List.getElem_toArray, List.getElem_cons_zero, List.getElem_cons_succ, List.setIfInBounds_toArray, List.set_cons_zero, List.set_cons_succ]
                refine wpAnyH_take (i := 7) (v := ?_) rfl (by kernel_rfl) (by kernel_rfl) (by kernel_rfl) (fun _ _ _ h => h) (Or.inl ⟨by rfl, ?_⟩) hHeld ?_
                rotate_left
                · intro w2 hSw
                  go_simp
                  all_goals rfl
                try simp only [Act.put, List.getElem_toArray, List.getElem_cons_zero, List.getElem_cons_succ, List.setIfInBounds_toArray, List.set_cons_zero, List.set_cons_succ]
                refine wpAnyH_take (i := 8) (v := ?_) rfl (by kernel_rfl) (by kernel_rfl) (by kernel_rfl) (fun _ _ _ h => h) (Or.inl ⟨by rfl, ?_⟩) hHeld ?_
                rotate_left
                · intro w2 hSw
                  go_simp
                  all_goals rfl
                try simp only [Act.put, List.getElem_toArray, List.getElem_cons_zero, List.getElem_cons_succ, List.setIfInBounds_toArray, List.set_cons_zero, List.set_cons_succ]
                refine wpAnyH_take (i := 9) (v := .int .i64 pj) rfl (by kernel_rfl) (by kernel_rfl) (by kernel_rfl) (fun _ _ _ h => h) (Or.inl ⟨by rfl, ?_⟩) hHeld ?_
                · intro w2 hSw
                  exact exec_load rfl rfl (run_loadVar_cell9 (Kept.cell ((((Only.refl _ wj).drew)).then hSw) b1j) rfl Try.underlying3)
                try simp only [Act.put, List.getElem_toArray, List.getElem_cons_zero, List.getElem_cons_succ, List.setIfInBounds_toArray, List.set_cons_zero, List.set_cons_succ]
                refine wpAnyH_take (i := 10) (v := ?_) rfl (by kernel_rfl) (by kernel_rfl) (by kernel_rfl) (fun _ _ _ h => h) (Or.inl ⟨by rfl, ?_⟩) hHeld ?_
                rotate_left
                · intro w2 hSw
                  go_simp
                  all_goals rfl
                try simp only [Act.put, List.getElem_toArray, List.getElem_cons_zero, List.getElem_cons_succ, List.setIfInBounds_toArray, List.set_cons_zero, List.set_cons_succ]
                try rw [ce]
                refine wpAnyH_take (i := 11) (v := ?_) rfl (by kernel_rfl) (by kernel_rfl) (by kernel_rfl) (fun _ _ _ h => h) (Or.inl ⟨by rfl, ?_⟩) hHeld ?_
                rotate_left
                · intro w2 hSw
                  go_simp
                  all_goals rfl
                try simp only [Act.put, List.getElem_toArray, List.getElem_cons_zero, List.getElem_cons_succ, List.setIfInBounds_toArray, List.set_cons_zero, List.set_cons_succ]
                refine wpAnyH_take (i := 12) rfl (by kernel_rfl) (by kernel_rfl) (by kernel_rfl) (fun _ _ _ h => h) (Or.inr ⟨by rfl, rfl⟩) hHeld ?_
                try simp only [Act.put, List.getElem_toArray, List.getElem_cons_zero, List.getElem_cons_succ, List.setIfInBounds_toArray, List.set_cons_zero, List.set_cons_succ]
                refine wpAnyH_take (i := 13) rfl (by kernel_rfl) (by kernel_rfl) (by kernel_rfl) (fun _ _ _ h => h) (Or.inr ⟨by rfl, rfl⟩) hHeld ?_
                try simp only [Act.put, List.getElem_toArray, List.getElem_cons_zero, List.getElem_cons_succ, List.setIfInBounds_toArray, List.set_cons_zero, List.set_cons_succ]
                refine wpAnyH_take (i := 14) rfl (by kernel_rfl) (by kernel_rfl) (by kernel_rfl) (fun _ _ _ h => h) (Or.inr ⟨by rfl, rfl⟩) hHeld ?_
                try simp only [Act.put, List.getElem_toArray, List.getElem_cons_zero, List.getElem_cons_succ, List.setIfInBounds_toArray, List.set_cons_zero, List.set_cons_succ]
                refine wpAnyH_take (i := 15) rfl (by kernel_rfl) (by kernel_rfl) (by kernel_rfl) (fun _ _ _ h => h) (Or.inr ⟨by rfl, rfl⟩) hHeld ?_
                try simp only [Act.put, List.getElem_toArray, List.getElem_cons_zero, List.getElem_cons_succ, List.setIfInBounds_toArray, List.set_cons_zero, List.set_cons_succ]
                refine wpAnyH_take (i := 16) rfl (by kernel_rfl) (by kernel_rfl) (by kernel_rfl) (fun _ _ _ h => h) (Or.inr ⟨by rfl, rfl⟩) hHeld ?_
                try simp only [Act.put, List.getElem_toArray, List.getElem_cons_zero, List.getElem_cons_succ, List.setIfInBounds_toArray, List.set_cons_zero, List.set_cons_succ]
                refine wpAnyH_take (i := 17) rfl (by kernel_rfl) (by kernel_rfl) (by kernel_rfl) (fun _ _ _ h => h) (Or.inr ⟨by rfl, rfl⟩) hHeld ?_
                try simp only [Act.put, List.getElem_toArray, List.getElem_cons_zero, List.getElem_cons_succ, List.setIfInBounds_toArray, List.set_cons_zero, List.set_cons_succ]
                refine wpAnyH_take (i := 18) rfl (by kernel_rfl) (by kernel_rfl) (by kernel_rfl) (fun _ _ _ h => h) (Or.inr ⟨by rfl, rfl⟩) hHeld ?_
                try simp only [Act.put, List.getElem_toArray, List.getElem_cons_zero, List.getElem_cons_succ, List.setIfInBounds_toArray, List.set_cons_zero, List.set_cons_succ]
                refine wpAnyH_take (i := 19) rfl (by kernel_rfl) (by kernel_rfl) (by kernel_rfl) (fun _ _ _ h => h) (Or.inr ⟨by rfl, rfl⟩) hHeld ?_
                try simp only [Act.put, List.getElem_toArray, List.getElem_cons_zero, List.getElem_cons_succ, List.setIfInBounds_toArray, List.set_cons_zero, List.set_cons_succ]
                refine wpAnyH_take (i := 20) rfl (by kernel_rfl) (by kernel_rfl) (by kernel_rfl) (fun _ _ _ h => h) (Or.inr ⟨by rfl, rfl⟩) hHeld ?_
                try simp only [Act.put, List.getElem_toArray, List.getElem_cons_zero, List.getElem_cons_succ, List.setIfInBounds_toArray, List.set_cons_zero, List.set_cons_succ]
                refine wpAnyH_take (i := 21) rfl (by kernel_rfl) (by kernel_rfl) (by kernel_rfl) (fun _ _ _ h => h) (Or.inr ⟨by rfl, rfl⟩) hHeld ?_
                try simp only [Act.put, List.getElem_toArray, List.getElem_cons_zero, List.getElem_cons_succ, List.setIfInBounds_toArray, List.set_cons_zero, List.set_cons_succ]
                refine wpAnyH_take (i := 22) rfl (by kernel_rfl) (by kernel_rfl) (by kernel_rfl) (fun _ _ _ h => h) (Or.inr ⟨by rfl, rfl⟩) hHeld ?_
                try simp only [Act.put, List.getElem_toArray, List.getElem_cons_zero, List.getElem_cons_succ, List.setIfInBounds_toArray, List.set_cons_zero, List.set_cons_succ]
                refine wpAnyH_take (i := 23) (v := ?_) rfl (by kernel_rfl) (by kernel_rfl) (by kernel_rfl) (fun _ _ _ h => h) (Or.inl ⟨by rfl, ?_⟩) hHeld ?_
                rotate_left
                · intro w2 hSw
                  go_simp
                  all_goals rfl
                try simp only [Act.put, List.getElem_toArray, List.getElem_cons_zero, List.getElem_cons_succ, List.setIfInBounds_toArray, List.set_cons_zero, List.set_cons_succ]
                refine wpAnyH_done (by kernel_rfl) ?_ _
                go_wp2_with fail
                exact ⟨⟨j + 1, by omega, by go_num, hgj.then ((Only.refl _ wj).drew)⟩, by simp [intOf]; omega⟩
              · have cf : (ak == aj) = false := beq_eq_false_iff_ne.2 fun h => hne ⟨beq_iff_eq.1 ce, h⟩
                go_upto_region 21 with fail
                refine wp_region_held_drew (S := fun w2 => Kept wj.drew w2) (by kernel_rfl) (Only.refl _ _) (fun hHeld => ?_)
                refine wpAnyH_take (i := 0) (v := ?_) rfl (by kernel_rfl) (by kernel_rfl) (by kernel_rfl) (fun _ _ _ h => h) (Or.inl ⟨by rfl, ?_⟩) hHeld ?_
                rotate_left
                · intro w2 hSw
                  go_simp
                  all_goals rfl
                try simp only [Act.put, List.getElem_toArray, List.getElem_cons_zero, List.setIfInBounds_toArray, List.set_cons_zero, List.set_cons_succ]
                refine wpAnyH_take (i := 1) (v := ?_) rfl (by kernel_rfl) (by kernel_rfl) (by kernel_rfl) (fun _ _ _ h => h) (Or.inl ⟨by rfl, ?_⟩) hHeld ?_
                rotate_left
                · intro w2 hSw
                  go_simp
                  all_goals rfl
                try simp only [Act.put, List.getElem_toArray, List.getElem_cons_zero, List.getElem_cons_succ, List.setIfInBounds_toArray, List.set_cons_zero, List.set_cons_succ]
                refine wpAnyH_take (i := 2) (v := ?_) rfl (by kernel_rfl) (by kernel_rfl) (by kernel_rfl) (fun _ _ _ h => h) (Or.inl ⟨by rfl, ?_⟩) hHeld ?_
                rotate_left
                · intro w2 hSw
                  go_simp
                  all_goals rfl
                try simp only [Act.put, List.getElem_toArray, List.getElem_cons_zero, List.getElem_cons_succ, List.setIfInBounds_toArray, List.set_cons_zero, List.set_cons_succ]
                refine wpAnyH_take (i := 3) (v := ?_) rfl (by kernel_rfl) (by kernel_rfl) (by kernel_rfl) (fun _ _ _ h => h) (Or.inl ⟨by rfl, ?_⟩) hHeld ?_
                rotate_left
                · intro w2 hSw
                  go_simp
                  all_goals rfl
                try simp only [Act.put, List.getElem_toArray, List.getElem_cons_zero, List.getElem_cons_succ, List.setIfInBounds_toArray, List.set_cons_zero, List.set_cons_succ]
                refine wpAnyH_take (i := 4) (v := .int .i64 pk) rfl (by kernel_rfl) (by kernel_rfl) (by kernel_rfl) (fun _ _ _ h => h) (Or.inl ⟨by rfl, ?_⟩) hHeld ?_
                · intro w2 hSw
                  exact exec_load rfl rfl (run_loadVar_cell9 (Kept.cell ((((Only.refl _ wj).drew)).then hSw) a1j) rfl Try.underlying3)
                try simp only [Act.put, List.getElem_toArray, List.getElem_cons_zero, List.getElem_cons_succ, List.setIfInBounds_toArray, List.set_cons_zero, List.set_cons_succ]
                refine wpAnyH_take (i := 5) (v := ?_) rfl (by kernel_rfl) (by kernel_rfl) (by kernel_rfl) (fun _ _ _ h => h) (Or.inl ⟨by rfl, ?_⟩) hHeld ?_
                rotate_left
                · intro w2 hSw
                  go_simp
                  all_goals rfl
                try simp only [Act.put, List.getElem_toArray, List.getElem_cons_zero, List.getElem_cons_succ, List.setIfInBounds_toArray, List.set_cons_zero, List.set_cons_succ]
                refine wpAnyH_take (i := 6) (v := ?_) rfl (by kernel_rfl) (by kernel_rfl) (by kernel_rfl) (fun _ _ _ h => h) (Or.inl ⟨by rfl, ?_⟩) hHeld ?_
                rotate_left
                · intro w2 hSw
                  go_simp
                  all_goals rfl
                try simp only [Act.put, List.getElem_toArray, List.getElem_cons_zero, List.getElem_cons_succ, List.setIfInBounds_toArray, List.set_cons_zero, List.set_cons_succ]
                refine wpAnyH_take (i := 7) (v := ?_) rfl (by kernel_rfl) (by kernel_rfl) (by kernel_rfl) (fun _ _ _ h => h) (Or.inl ⟨by rfl, ?_⟩) hHeld ?_
                rotate_left
                · intro w2 hSw
                  go_simp
                  all_goals rfl
                try simp only [Act.put, List.getElem_toArray, List.getElem_cons_zero, List.getElem_cons_succ, List.setIfInBounds_toArray, List.set_cons_zero, List.set_cons_succ]
                refine wpAnyH_take (i := 8) (v := ?_) rfl (by kernel_rfl) (by kernel_rfl) (by kernel_rfl) (fun _ _ _ h => h) (Or.inl ⟨by rfl, ?_⟩) hHeld ?_
                rotate_left
                · intro w2 hSw
                  go_simp
                  all_goals rfl
                try simp only [Act.put, List.getElem_toArray, List.getElem_cons_zero, List.getElem_cons_succ, List.setIfInBounds_toArray, List.set_cons_zero, List.set_cons_succ]
                refine wpAnyH_take (i := 9) (v := .int .i64 pj) rfl (by kernel_rfl) (by kernel_rfl) (by kernel_rfl) (fun _ _ _ h => h) (Or.inl ⟨by rfl, ?_⟩) hHeld ?_
                · intro w2 hSw
                  exact exec_load rfl rfl (run_loadVar_cell9 (Kept.cell ((((Only.refl _ wj).drew)).then hSw) b1j) rfl Try.underlying3)
                try simp only [Act.put, List.getElem_toArray, List.getElem_cons_zero, List.getElem_cons_succ, List.setIfInBounds_toArray, List.set_cons_zero, List.set_cons_succ]
                refine wpAnyH_take (i := 10) (v := ?_) rfl (by kernel_rfl) (by kernel_rfl) (by kernel_rfl) (fun _ _ _ h => h) (Or.inl ⟨by rfl, ?_⟩) hHeld ?_
                rotate_left
                · intro w2 hSw
                  go_simp
                  all_goals rfl
                try simp only [Act.put, List.getElem_toArray, List.getElem_cons_zero, List.getElem_cons_succ, List.setIfInBounds_toArray, List.set_cons_zero, List.set_cons_succ]
                try rw [ce]
                refine wpAnyH_take (i := 11) (v := ?_) rfl (by kernel_rfl) (by kernel_rfl) (by kernel_rfl) (fun _ _ _ h => h) (Or.inl ⟨by rfl, ?_⟩) hHeld ?_
                rotate_left
                · intro w2 hSw
                  go_simp
                  all_goals rfl
                try simp only [Act.put, List.getElem_toArray, List.getElem_cons_zero, List.getElem_cons_succ, List.setIfInBounds_toArray, List.set_cons_zero, List.set_cons_succ]
                refine wpAnyH_take (i := 12) (v := ?_) rfl (by kernel_rfl) (by kernel_rfl) (by kernel_rfl) (fun _ _ _ h => h) (Or.inl ⟨by rfl, ?_⟩) hHeld ?_
                rotate_left
                · intro w2 hSw
                  go_simp
                  all_goals rfl
                try simp only [Act.put, List.getElem_toArray, List.getElem_cons_zero, List.getElem_cons_succ, List.setIfInBounds_toArray, List.set_cons_zero, List.set_cons_succ]
                refine wpAnyH_take (i := 13) (v := ?_) rfl (by kernel_rfl) (by kernel_rfl) (by kernel_rfl) (fun _ _ _ h => h) (Or.inl ⟨by rfl, ?_⟩) hHeld ?_
                rotate_left
                · intro w2 hSw
                  go_simp
                  all_goals rfl
                try simp only [Act.put, List.getElem_toArray, List.getElem_cons_zero, List.getElem_cons_succ, List.setIfInBounds_toArray, List.set_cons_zero, List.set_cons_succ]
                refine wpAnyH_take (i := 14) (v := ?_) rfl (by kernel_rfl) (by kernel_rfl) (by kernel_rfl) (fun _ _ _ h => h) (Or.inl ⟨by rfl, ?_⟩) hHeld ?_
                rotate_left
                · intro w2 hSw
                  go_simp
                  all_goals rfl
                try simp only [Act.put, List.getElem_toArray, List.getElem_cons_zero, List.getElem_cons_succ, List.setIfInBounds_toArray, List.set_cons_zero, List.set_cons_succ]
                refine wpAnyH_take (i := 15) (v := ?_) rfl (by kernel_rfl) (by kernel_rfl) (by kernel_rfl) (fun _ _ _ h => h) (Or.inl ⟨by rfl, ?_⟩) hHeld ?_
                rotate_left
                · intro w2 hSw
                  go_simp
                  all_goals rfl
                try simp only [Act.put, List.getElem_toArray, List.getElem_cons_zero, List.getElem_cons_succ, List.setIfInBounds_toArray, List.set_cons_zero, List.set_cons_succ]
                refine wpAnyH_take (i := 16) (v := .int .i64 ak) rfl (by kernel_rfl) (by kernel_rfl) (by kernel_rfl) (fun _ _ _ h => h) (Or.inl ⟨by rfl, ?_⟩) hHeld ?_
                · intro w2 hSw
                  exact exec_load rfl rfl (run_loadVar_cell9 (Kept.cell ((((Only.refl _ wj).drew)).then hSw) a2j) rfl Try.underlying3)
                try simp only [Act.put, List.getElem_toArray, List.getElem_cons_zero, List.getElem_cons_succ, List.setIfInBounds_toArray, List.set_cons_zero, List.set_cons_succ]
                refine wpAnyH_take (i := 17) (v := ?_) rfl (by kernel_rfl) (by kernel_rfl) (by kernel_rfl) (fun _ _ _ h => h) (Or.inl ⟨by rfl, ?_⟩) hHeld ?_
                rotate_left
                · intro w2 hSw
                  go_simp
                  all_goals rfl
                try simp only [Act.put, List.getElem_toArray, List.getElem_cons_zero, List.getElem_cons_succ, List.setIfInBounds_toArray, List.set_cons_zero, List.set_cons_succ]
                refine wpAnyH_take (i := 18) (v := ?_) rfl (by kernel_rfl) (by kernel_rfl) (by kernel_rfl) (fun _ _ _ h => h) (Or.inl ⟨by rfl, ?_⟩) hHeld ?_
                rotate_left
                · intro w2 hSw
                  go_simp
                  all_goals rfl
                try simp only [Act.put, List.getElem_toArray, List.getElem_cons_zero, List.getElem_cons_succ, List.setIfInBounds_toArray, List.set_cons_zero, List.set_cons_succ]
                refine wpAnyH_take (i := 19) (v := ?_) rfl (by kernel_rfl) (by kernel_rfl) (by kernel_rfl) (fun _ _ _ h => h) (Or.inl ⟨by rfl, ?_⟩) hHeld ?_
                rotate_left
                · intro w2 hSw
                  go_simp
                  all_goals rfl
                try simp only [Act.put, List.getElem_toArray, List.getElem_cons_zero, List.getElem_cons_succ, List.setIfInBounds_toArray, List.set_cons_zero, List.set_cons_succ]
                refine wpAnyH_take (i := 20) (v := ?_) rfl (by kernel_rfl) (by kernel_rfl) (by kernel_rfl) (fun _ _ _ h => h) (Or.inl ⟨by rfl, ?_⟩) hHeld ?_
                rotate_left
                · intro w2 hSw
                  go_simp
                  all_goals rfl
                try simp only [Act.put, List.getElem_toArray, List.getElem_cons_zero, List.getElem_cons_succ, List.setIfInBounds_toArray, List.set_cons_zero, List.set_cons_succ]
                refine wpAnyH_take (i := 21) (v := .int .i64 aj) rfl (by kernel_rfl) (by kernel_rfl) (by kernel_rfl) (fun _ _ _ h => h) (Or.inl ⟨by rfl, ?_⟩) hHeld ?_
                · intro w2 hSw
                  exact exec_load rfl rfl (run_loadVar_cell9 (Kept.cell ((((Only.refl _ wj).drew)).then hSw) b2j) rfl Try.underlying3)
                try simp only [Act.put, List.getElem_toArray, List.getElem_cons_zero, List.getElem_cons_succ, List.setIfInBounds_toArray, List.set_cons_zero, List.set_cons_succ]
                refine wpAnyH_take (i := 22) (v := ?_) rfl (by kernel_rfl) (by kernel_rfl) (by kernel_rfl) (fun _ _ _ h => h) (Or.inl ⟨by rfl, ?_⟩) hHeld ?_
                rotate_left
                · intro w2 hSw
                  go_simp
                  all_goals rfl
                try simp only [Act.put, List.getElem_toArray, List.getElem_cons_zero, List.getElem_cons_succ, List.setIfInBounds_toArray, List.set_cons_zero, List.set_cons_succ]
                try rw [cf]
                refine wpAnyH_take (i := 23) (v := ?_) rfl (by kernel_rfl) (by kernel_rfl) (by kernel_rfl) (fun _ _ _ h => h) (Or.inl ⟨by rfl, ?_⟩) hHeld ?_
                rotate_left
                · intro w2 hSw
                  go_simp
                  all_goals rfl
                try simp only [Act.put, List.getElem_toArray, List.getElem_cons_zero, List.getElem_cons_succ, List.setIfInBounds_toArray, List.set_cons_zero, List.set_cons_succ]
                refine wpAnyH_done (by kernel_rfl) ?_ _
                go_wp2_with fail
                exact ⟨⟨j + 1, by omega, by go_num, hgj.then ((Only.refl _ wj).drew)⟩, by simp [intOf]; omega⟩
            · obtain rfl : j = k := by omega
              go_wp2_with fail
              exact ⟨⟨j + 1, by omega, by go_num, hgj⟩, by simp [intOf]; omega⟩
        · obtain rfl : k = LL.length := by omega
          go_wp2_with fail
          have hk2 : i < n := hkeep
          exact ⟨⟨i + 1, T2, by omega, by go_num, s11.kept hgk, hI2⟩, by simp [intOf]; omega⟩
    · obtain rfl : i = n := by omega
      go_wp2_with fail
      go_ret
      exact ⟨rfl, si.k⟩
set_option maxHeartbeats 1000000 in
theorem tone_any (v u : Value) {W : World} (h : RowB W v) (g : RowB W u) (hT : Tab13 W) :
    Calls Try.prog 4 #[v, u] W fun e w' => e = .returned (.bool true) ∧ Kept W w' := by
  obtain ⟨qp, n, cp, L, rfl, hP⟩ := h
  obtain ⟨qf, m, cf, F, rfl, hF⟩ := g
  by_cases hn : n ≤ 100
  · by_cases hm : n ≤ m
    · exact tone_short qp qf n m cp cf L F hn hm hP hF hT
    · have l1 : ¬ (100 : Int) < (n : Int) := by omega
      have l2 : (m : Int) < (n : Int) := by omega
      clear hP hF hn hm
      go_enter Try.func4, Try.ntmps4
      go_wp2_with fail
      refine (known13_any hT (Only.refl _ W)).mono ?_
      rintro e w1 ⟨rfl, k1⟩
      go_wp2
      go_ret
      exact ⟨rfl, k1⟩
  · have l1 : (100 : Int) < (n : Int) := by omega
    clear hP hF hn
    go_enter Try.func4, Try.ntmps4
    go_wp2_with fail
    refine (known13_any hT (Only.refl _ W)).mono ?_
    rintro e w1 ⟨rfl, k1⟩
    go_wp2
    go_ret
    exact ⟨rfl, k1⟩
end Go.Proofs.Ytlfaklabghhdkaa
