/-
  What statement TlbMarks asks: walked over the contracts.
-/
import Derived.Test.YtlfaklabghhdkaaTlFace
import Derived.Test.YtlfaklabghhdkaaMarkMath
import Derived.Test.YtlfaklabghhdkaaPteDoc
import Derived.Deep.RegionHeld3
import Derived.Deep.CutRange
namespace Go.Proofs.Ytlfaklabghhdkaa
open Go.RowKit
theorem wpList_load_mid_is {P : Program} {ops : Array Oper} {rest : List Oper} {op : Oper} {a : Act} {w : World} {Q : Exit → Act → World → Prop} (hw : Region.wanted op (yielded ops a.tmps) = true) (ty : TypeId) (x : Operand) (ho : op.op = .load ty x)
    (b o : Nat) (hx : a.eval x = .pointer (some ⟨b, o, none⟩)) (cs : List Value) (d : TypeDesc) (hc : w.rangeAt b o cs)
    (hu : P.underlying ty = some d) (hd : d.isRow = true) (hi : (P.info? ty).map (·.size) = some cs.length)
    (h : wpList P ops Q rest (a.put op.dst (.agg cs.toArray)) w) : wpList P ops Q (op :: rest) a w :=
  BigFrame.wpList_want hw fun _ hK => wp_load_mid ty x ho b o hx cs d hc hu hd hi (hK _ _ h)
theorem range_past {w w' : World} {g o b : Nat} {cs : List Value} (h : w.rangeAt g o cs) (k : Only (fun i => i = b) w w') (hn : g ≠ b) : w'.rangeAt g o cs := fun j v hj => by
  have hc := h j v hj
  have hlt : g < w.heap.size := by
    apply Classical.byContradiction
    intro hn
    rw [World.cell?] at hc
    simp [Array.getElem?_eq_none (show w.heap.size ≤ g by omega)] at hc
  rw [World.cell?_of_block (w := w) (a := ⟨g, o + j, none⟩) (k.same g hlt hn)]
  exact hc
theorem St13.same {W w w' : World} {b : Nat} {T : Nat → EntM} (h : St13 W w b T) {S : Nat → Prop} (g : Only S w w') (hs : ∀ i, S i → W.heap.size ≤ i ∧ i ≠ b) : St13 W w' b T := ⟨h.m.same g fun x => (hs b x).2 rfl, h.k.new g fun i hi => (hs i hi).1, h.hb⟩
set_option maxRecDepth 100000 in
set_option maxHeartbeats 8000000 in
theorem tmarks_any (p a c : Int) (p0 : 0 ≤ p) (p1 : p ≤ 255) (a0 : 0 ≤ a) (a1 : a ≤ 255) (c0 : 0 ≤ c) (c1 : c ≤ 255) {W : World} (hT : Tab13 W) :
    Calls Try.prog 5 #[.int .u8 p, .int .u8 a, .int .u8 c] W fun e w' => e = .returned (.bool true) ∧ Kept W w' := by
  have wp : IntKind.i64.wrap p = p := by rw [IntKind.wrap_i64]; omega
  have wa : IntKind.i64.wrap a = a := by rw [IntKind.wrap_i64]; omega
  have wc : IntKind.i64.wrap c = c := by rw [IntKind.wrap_i64]; omega
  go_enter Try.func5, Try.ntmps5
  go_wp2_with fail
  refine (known13_any hT (Only.refl _ W)).mono ?_
  rintro e w1 ⟨rfl, k1⟩
  go_wp2_with fail
  refine (tnew_any (hT.kept k1)).mono ?_
  rintro e w2 ⟨b, rfl, m2, hb2, k2⟩
  have s2 : St13 W w2 b (fstT (mkE p a c) 0) := ⟨by rw [fst_zero]; exact m2, k1.then k2, Nat.le_trans k1.size hb2⟩
  have hbs := m2.lt
  obtain ⟨base, hbase⟩ : ∃ base, w2.heap.size = base := ⟨_, rfl⟩
  have hWb : W.heap.size ≤ base := by rw [← hbase]; exact s2.k.size
  have hsz : base ≤ w2.heap.size := by omega
  rw [hbase] at hbs
  clear m2 hb2 k2 k1 hbase
  go_wp2_with fail
  go_loopw [10, 9] (fun i l wr => ∃ (j : Nat) (v : Value), j ≤ 8 ∧ i = .int .i64 (j : Int) ∧ l = v ∧ St13 W wr b (fstT (mkE p a c) j) ∧ OwnE base wr v (mkL p a c j) ∧ base ≤ wr.heap.size) (fun i _ _ => 8 - (intOf i).toNat)
  case atStart => exact ⟨0, _, by omega, rfl, rfl, s2, ownE_nil _ _, hsz⟩
  case round =>
    obtain ⟨j, v, hj, rfl, rfl, sj, oj, hz⟩ := hrel
    clear s2 hsz
    have hlen := mkL_len p a c j
    obtain ⟨q, cap, rfl⟩ := oj.form
    rw [hlen] at oj ⊢
    by_cases hlt : j < 8
    · have hlt' : (j : Int) < 8 := by omega
      have hj0 : (0 : Int) ≤ (j : Int) := by omega
      have hkeep : j < 8 := hlt
      have b1 : bits .and .i64 (j : Int) 1 = (j : Int) % 2 := i_low (j : Int) 1 (by omega) 1 rfl
      have b2 : bits .and .i64 ((j : Int) / 2) 1 = (j : Int) / 2 % 2 := i_low ((j : Int) / 2) 1 (by omega) 1 rfl
      go_upto_region 10 with (first | (refine wpList_alloc_go rfl 28 rfl (entA entNone).toArray ent_zero' ?_; intro eb w4 n4 k4 m4 e4) | (refine wpList_store_go rfl 28 _ _ rfl eb (entA (mkE p a c j)).toArray rfl rfl e4 (ent_size' _) ((ent_len _).trans (ent_len _).symm) (ent_ones' _) ?_; intro w5 o5 e5))
      have s5 := sj.kept (k4.new o5 fun i hi => by omega)
      have w45 : Kept wr w5 := k4.new o5 fun i hi => by omega
      have oj5 : OwnE base w5 (.slice q j cap) (mkL p a c j) := oj.kept w45
      have hz5 : base ≤ w5.heap.size := Nat.le_trans hz w45.size
      have heb : ¬ eb = b := by have := sj.m.lt; omega
      clear sj oj k4 o5 e4 w45 b1 b2
      have hnx := mk_next p a c j hkeep
      have hsn := mkL_snoc p a c j
      generalize mkE p a c j = E at *
      go_upto_region 11 with (first | (refine wpList_load_blk (by rfl) 28 _ rfl eb rfl e5 _ Try.underlying28 rfl (ent_size' _) ?_) | (go_at_call 10; refine (tfill_any (hT.kept s5.k) s5.m E 0).mono ?_; rintro r w6 ⟨rfl, m6, g6⟩))
      have s6 := s5.turn g6 m6
      rw [hnx] at s6
      have e6 : Blk w6 eb 28 (entA E).toArray := g6.block e5 heb
      have oj6 := oj5.past g6 fun i hi => by omega
      have hz6 : base ≤ w6.heap.size := Nat.le_trans hz5 g6.size
      clear s5 e5 oj5 m6 g6 hz5
      go_wp2_with (first | (refine wpList_load_blk (by rfl) 28 _ rfl eb rfl e6 _ Try.underlying28 rfl (ent_size' _) ?_) | (refine wpList_slice1 rfl _ rfl E rfl ?_; intro xb w7 n7 k7 m7 e7) | (at_builtin; refine wpList_appE rfl _ _ rfl rfl (oj6.kept k7) xb E rfl e7.range (by omega) (by omega) ?_; intro gb gc w8 ow8 go8))
      have s8 : St13 W w8 b (fstT (mkE p a c) (j + 1)) := (s6.kept k7).same go8 fun i hi => by omega
      rw [← hsn] at ow8
      have hz8 : base ≤ w8.heap.size := by have := go8.size; have := k7.size; omega
      exact ⟨⟨j + 1, _, by omega, by go_num, by rw [hlen], s8, ow8, hz8⟩, by simp [intOf]; omega⟩
    · obtain rfl : j = 8 := by omega
      obtain ⟨wo, rfl⟩ : ∃ wo, wo = wr := ⟨_, rfl⟩
      have s9 := sj
      have hrow : ∀ i, i < 8 → ∃ g, q = some ⟨g, 0, none⟩ ∧ wo.rangeAt g (i * 9) (entA (mkE p a c i)) ∧ g ≠ b := by
        intro i hi
        have hi' : i < (mkL p a c 8).length := by rw [mkL_len]; exact hi
        obtain ⟨g, cap', e, hgg, hr⟩ := oj.range i hi'
        rw [mkL_get] at hr
        rw [mkL_len] at e
        obtain ⟨rfl, _⟩ : q = some ⟨g, 0, none⟩ ∧ cap = cap' := by simpa using e
        exact ⟨g, rfl, hr, by omega⟩
      clear sj oj hz hlt
      go_wp2_with fail
      go_loopw [12] (fun i wv => ∃ j : Nat, j ≤ 8 ∧ i = .int .i64 (j : Int) ∧ Kept wo wv) (fun i _ => 8 - (intOf i).toNat)
      case atStart => exact ⟨0, by omega, rfl, Only.refl _ _⟩
      case round =>
        obtain ⟨wv, rfl⟩ : ∃ wv, wv = wr := ⟨_, rfl⟩
        obtain ⟨j, hj, rfl, hgv⟩ := hrel
        by_cases hlt : j < 8
        · obtain ⟨g, rfl, r0, _⟩ := hrow j hlt
          have rr := range_kept r0 hgv
          have sv := s9.kept hgv
          obtain ⟨hlook, his⟩ := mk_look p a c j hlt
          have hlt' : (j : Int) < 8 := by omega
          have hj0 : (0 : Int) ≤ (j : Int) := by omega
          have hkeep : j < 8 := hlt
          have hpg : (mkE p a c j).page = p := rfl
          rw [hpg] at hlook his
          clear hrow r0 hpg hlen
          generalize mkE p a c j = E at *
          go_upto_region 15 with fail
          go_cut [13, 14] from 50 to 84 (fun t13 t14 wx => ∃ fb, t13 = .pointer (some ⟨fb, 0, none⟩) ∧ t14 = .bool true ∧ Kept wv wx ∧ Blk wx fb 28 (entA E).toArray)
          case first =>
            refine wp_region_held_drew (S := fun w2 => Kept wv.drew w2) (by kernel_rfl) (Only.refl _ _) (fun hHeld => ?_)
            refine wpAnyH_take (i := 0) (v := ?_) rfl (by kernel_rfl) (by kernel_rfl) (by kernel_rfl) (fun _ _ _ h => h) (Or.inl ⟨by rfl, ?_⟩) hHeld ?_
            rotate_left
            · intro w2 hSw
              go_simp
              all_goals rfl
            try simp only [Act.put, List.getElem_toArray, List.getElem_cons_zero, List.setIfInBounds_toArray, List.set_cons_zero, List.set_cons_succ]
            refine wpAnyH_take (i := 1) (v := ?_) rfl (by kernel_rfl) (by kernel_rfl) (by kernel_rfl) (fun _ _ _ h => h) (Or.inl ⟨by rfl, ?_⟩) hHeld ?_
            rotate_left
            · intro w2 hSw
              go_simp
              all_goals rfl
            try simp only [Act.put, List.getElem_toArray, List.getElem_cons_zero, List.getElem_cons_succ, List.setIfInBounds_toArray, List.set_cons_zero, List.set_cons_succ]
            refine wpAnyH_take (i := 2) (v := ?_) rfl (by kernel_rfl) (by kernel_rfl) (by kernel_rfl) (fun _ _ _ h => h) (Or.inl ⟨by rfl, ?_⟩) hHeld ?_
            rotate_left
            · intro w2 hSw
              go_simp
              all_goals rfl
            try simp only [Act.put, List.getElem_toArray, List.getElem_cons_zero, List.getElem_cons_succ, List.setIfInBounds_toArray, List.set_cons_zero, List.set_cons_succ]
            refine wpAnyH_take (i := 3) (v := ?_) rfl (by kernel_rfl) (by kernel_rfl) (by kernel_rfl) (fun _ _ _ h => h) (Or.inl ⟨by rfl, ?_⟩) hHeld ?_
            rotate_left
            · intro w2 hSw
              go_simp
              all_goals rfl
            try simp only [Act.put, List.getElem_toArray, List.getElem_cons_zero, List.getElem_cons_succ, List.setIfInBounds_toArray, List.set_cons_zero, List.set_cons_succ]
            refine wpAnyH_take (i := 4) (v := ?_) rfl (by kernel_rfl) (by kernel_rfl) (by kernel_rfl) (fun _ _ _ h => h) (Or.inl ⟨by rfl, ?_⟩) hHeld ?_
            rotate_left
            · intro w2 hSw
              go_simp
              all_goals rfl
            try simp only [Act.put, List.getElem_toArray, List.getElem_cons_zero, List.getElem_cons_succ, List.setIfInBounds_toArray, List.set_cons_zero, List.set_cons_succ]
            refine wpAnyH_take (i := 5) (v := ?_) rfl (by kernel_rfl) (by kernel_rfl) (by kernel_rfl) (fun _ _ _ h => h) (Or.inl ⟨by rfl, ?_⟩) hHeld ?_
            rotate_left
            · intro w2 hSw
              go_simp
              all_goals rfl
            try simp only [Act.put, List.getElem_toArray, List.getElem_cons_zero, List.getElem_cons_succ, List.setIfInBounds_toArray, List.set_cons_zero, List.set_cons_succ]
            refine wpAnyH_take (i := 6) (v := .bool E.v) rfl (by kernel_rfl) (by kernel_rfl) (by kernel_rfl) (fun _ _ _ h => h) (Or.inl ⟨by rfl, ?_⟩) hHeld ?_
            · intro w2 hSw
              exact exec_load rfl rfl (run_loadVar_cell9 (range_kept rr ((((Only.refl _ wv).drew)).then hSw) 1 _ rfl) rfl Try.underlying4)
            try simp only [Act.put, List.getElem_toArray, List.getElem_cons_zero, List.getElem_cons_succ, List.setIfInBounds_toArray, List.set_cons_zero, List.set_cons_succ]
            refine wpAnyH_take (i := 7) (v := ?_) rfl (by kernel_rfl) (by kernel_rfl) (by kernel_rfl) (fun _ _ _ h => h) (Or.inl ⟨by rfl, ?_⟩) hHeld ?_
            rotate_left
            · intro w2 hSw
              go_simp
              all_goals rfl
            try simp only [Act.put, List.getElem_toArray, List.getElem_cons_zero, List.getElem_cons_succ, List.setIfInBounds_toArray, List.set_cons_zero, List.set_cons_succ]
            refine wpAnyH_take (i := 8) (v := ?_) rfl (by kernel_rfl) (by kernel_rfl) (by kernel_rfl) (fun _ _ _ h => h) (Or.inl ⟨by rfl, ?_⟩) hHeld ?_
            rotate_left
            · intro w2 hSw
              go_simp
              all_goals rfl
            try simp only [Act.put, List.getElem_toArray, List.getElem_cons_zero, List.getElem_cons_succ, List.setIfInBounds_toArray, List.set_cons_zero, List.set_cons_succ]
            refine wpAnyH_take (i := 9) (v := ?_) rfl (by kernel_rfl) (by kernel_rfl) (by kernel_rfl) (fun _ _ _ h => h) (Or.inl ⟨by rfl, ?_⟩) hHeld ?_
            rotate_left
            · intro w2 hSw
              go_simp
              all_goals rfl
            try simp only [Act.put, List.getElem_toArray, List.getElem_cons_zero, List.getElem_cons_succ, List.setIfInBounds_toArray, List.set_cons_zero, List.set_cons_succ]
            refine wpAnyH_take (i := 10) (v := ?_) rfl (by kernel_rfl) (by kernel_rfl) (by kernel_rfl) (fun _ _ _ h => h) (Or.inl ⟨by rfl, ?_⟩) hHeld ?_
            rotate_left
            · intro w2 hSw
              go_simp
              all_goals rfl
            try simp only [Act.put, List.getElem_toArray, List.getElem_cons_zero, List.getElem_cons_succ, List.setIfInBounds_toArray, List.set_cons_zero, List.set_cons_succ]
            refine wpAnyH_take (i := 11) (v := .int .i64 E.asid) rfl (by kernel_rfl) (by kernel_rfl) (by kernel_rfl) (fun _ _ _ h => h) (Or.inl ⟨by rfl, ?_⟩) hHeld ?_
            · intro w2 hSw
              exact exec_load rfl rfl (run_loadVar_cell9 (range_kept rr ((((Only.refl _ wv).drew)).then hSw) 3 _ rfl) rfl Try.underlying3)
            try simp only [Act.put, List.getElem_toArray, List.getElem_cons_zero, List.getElem_cons_succ, List.setIfInBounds_toArray, List.set_cons_zero, List.set_cons_succ]
            refine wpAnyH_take (i := 12) (v := ?_) rfl (by kernel_rfl) (by kernel_rfl) (by kernel_rfl) (fun _ _ _ h => h) (Or.inl ⟨by rfl, ?_⟩) hHeld ?_
            rotate_left
            · intro w2 hSw
              go_simp
              all_goals rfl
            try simp only [Act.put, List.getElem_toArray, List.getElem_cons_zero, List.getElem_cons_succ, List.setIfInBounds_toArray, List.set_cons_zero, List.set_cons_succ]
            refine wpAnyH_take (i := 13) (v := ?_) rfl (by kernel_rfl) (by kernel_rfl) (by kernel_rfl) (fun _ _ _ h => h) (Or.inl ⟨by rfl, ?_⟩) hHeld ?_
            rotate_left
            · intro w2 hSw
              go_simp
              all_goals rfl
            try simp only [Act.put, List.getElem_toArray, List.getElem_cons_zero, List.getElem_cons_succ, List.setIfInBounds_toArray, List.set_cons_zero, List.set_cons_succ]
            refine wpAnyH_take (i := 14) (v := ?_) rfl (by kernel_rfl) (by kernel_rfl) (by kernel_rfl) (fun _ _ _ h => h) (Or.inl ⟨by rfl, ?_⟩) hHeld ?_
            rotate_left
            · intro w2 hSw
              go_simp
              all_goals rfl
            try simp only [Act.put, List.getElem_toArray, List.getElem_cons_zero, List.getElem_cons_succ, List.setIfInBounds_toArray, List.set_cons_zero, List.set_cons_succ]
            refine wpAnyH_take (i := 15) (v := ?_) rfl (by kernel_rfl) (by kernel_rfl) (by kernel_rfl) (fun _ _ _ h => h) (Or.inl ⟨by rfl, ?_⟩) hHeld ?_
            rotate_left
            · intro w2 hSw
              go_simp
              all_goals rfl
            try simp only [Act.put, List.getElem_toArray, List.getElem_cons_zero, List.getElem_cons_succ, List.setIfInBounds_toArray, List.set_cons_zero, List.set_cons_succ]
            refine wpAnyH_take (i := 16) (v := .int .i64 E.vmid) rfl (by kernel_rfl) (by kernel_rfl) (by kernel_rfl) (fun _ _ _ h => h) (Or.inl ⟨by rfl, ?_⟩) hHeld ?_
            · intro w2 hSw
              exact exec_load rfl rfl (run_loadVar_cell9 (range_kept rr ((((Only.refl _ wv).drew)).then hSw) 4 _ rfl) rfl Try.underlying3)
            try simp only [Act.put, List.getElem_toArray, List.getElem_cons_zero, List.getElem_cons_succ, List.setIfInBounds_toArray, List.set_cons_zero, List.set_cons_succ]
            refine wpAnyH_ready (rs := [17, 21]) (by kernel_rfl) (by simp) ?_
            refine AllReadyH.cons rfl (fun K hK => ?_) ?_
            · go_simp
              refine (tlook_any (hT.kept (sv.kept (((Only.refl _ wv).drew).then hHeld)).k) (sv.kept (((Only.refl _ wv).drew).then hHeld)).m p E.v E.asid E.vmid).mono ?_
              rintro r wn ⟨rfl, kn⟩
              rw [hlook, his]
              go_simp
              refine hK.out _ _ (hHeld.then kn) (fun hHeld => ?_)
              clear hK K
              try simp only [Act.put, List.getElem_toArray, List.getElem_cons_zero, List.getElem_cons_succ, List.setIfInBounds_toArray, List.set_cons_zero, List.set_cons_succ]
              refine wpAnyH_take (i := 18) (v := ?_) rfl (by kernel_rfl) (by kernel_rfl) (by kernel_rfl) (fun _ _ _ h => h) (Or.inl ⟨by rfl, ?_⟩) hHeld ?_
              rotate_left
              · intro w2 hSw
                go_simp
                all_goals rfl
              try simp only [Act.put, List.getElem_toArray, List.getElem_cons_zero, List.getElem_cons_succ, List.setIfInBounds_toArray, List.set_cons_zero, List.set_cons_succ]
              refine wpAnyH_take (i := 19) (v := ?_) rfl (by kernel_rfl) (by kernel_rfl) (by kernel_rfl) (fun _ _ _ h => h) (Or.inl ⟨by rfl, ?_⟩) hHeld ?_
              rotate_left
              · intro w2 hSw
                go_simp
                all_goals rfl
              try simp only [Act.put, List.getElem_toArray, List.getElem_cons_zero, List.getElem_cons_succ, List.setIfInBounds_toArray, List.set_cons_zero, List.set_cons_succ]
              refine wpAnyH_take (i := 20) (v := ?_) rfl (by kernel_rfl) (by kernel_rfl) (by kernel_rfl) (fun _ _ _ h => h) (Or.inl ⟨by rfl, ?_⟩) hHeld ?_
              rotate_left
              · intro w2 hSw
                go_simp
                all_goals rfl
              try simp only [Act.put, List.getElem_toArray, List.getElem_cons_zero, List.getElem_cons_succ, List.setIfInBounds_toArray, List.set_cons_zero, List.set_cons_succ]
              refine wpAnyH_ready (rs := [21]) (by kernel_rfl) (by simp) ?_
              refine AllReadyH.cons rfl (fun K hK => ?_) AllReadyH.nil
              rw [if_pos (by rfl)]
              refine wp_alloc_go _ rfl _ ent_zero' ?_
              intro fb wa na ka ma ea
              have la := hHeld.size
              rw [na] at la
              refine hK.out _ _ (hHeld.then ka) (fun hHeld => ?_)
              clear hK K
              try simp only [Act.put, List.getElem_toArray, List.getElem_cons_zero, List.getElem_cons_succ, List.setIfInBounds_toArray, List.set_cons_zero, List.set_cons_succ]
              refine wpAnyH_ready (rs := [22]) (by kernel_rfl) (by simp) ?_
              refine AllReadyH.cons rfl (fun K hK => ?_) AllReadyH.nil
              rw [if_pos (by rfl)]
              refine wp_store_go _ _ _ rfl fb (entA E).toArray rfl rfl (ea) (ent_size' _) ((ent_len _).trans (ent_len _).symm) (ent_ones' _) ?_
              intro ws os es
              have hH := hHeld.new os fun i hi => by omega
              refine hK.out _ _ hH (fun hHeld => ?_)
              clear hK K
              try simp only [Act.put, List.getElem_toArray, List.getElem_cons_zero, List.getElem_cons_succ]
              refine wpAnyH_take (i := 23) (v := ?_) rfl (by kernel_rfl) (by kernel_rfl) (by kernel_rfl) (fun _ _ _ h => h) (Or.inl ⟨by rfl, ?_⟩) hHeld ?_
              rotate_left
              · intro w2 hSw
                go_simp
                all_goals rfl
              try simp only [Act.put, List.getElem_toArray, List.getElem_cons_zero, List.getElem_cons_succ, List.setIfInBounds_toArray, List.set_cons_zero, List.set_cons_succ]
              refine wpAnyH_done (by kernel_rfl) ?_ _
              go_wp2_with fail
              go_meet
              case rel => exact ⟨fb, rfl, rfl, ((Only.refl _ wv).drew).then hH, es⟩
            refine AllReadyH.cons rfl (fun K hK => ?_) AllReadyH.nil
            rw [if_pos (by rfl)]
            refine wp_alloc_go _ rfl _ ent_zero' ?_
            intro fb wa na ka ma ea
            have la := hHeld.size
            rw [na] at la
            refine hK.out _ _ (hHeld.then ka) (fun hHeld => ?_)
            clear hK K
            try simp only [Act.put, List.getElem_toArray, List.getElem_cons_zero, List.getElem_cons_succ, List.setIfInBounds_toArray, List.set_cons_zero, List.set_cons_succ]
            refine wpAnyH_ready (rs := [17]) (by kernel_rfl) (by simp) ?_
            refine AllReadyH.cons rfl (fun K hK => ?_) AllReadyH.nil
            go_simp
            refine (tlook_any (hT.kept (sv.kept (((Only.refl _ wv).drew).then hHeld)).k) (sv.kept (((Only.refl _ wv).drew).then hHeld)).m p E.v E.asid E.vmid).mono ?_
            rintro r wn ⟨rfl, kn⟩
            rw [hlook, his]
            go_simp
            refine hK.out _ _ (hHeld.then kn) (fun hHeld => ?_)
            clear hK K
            try simp only [Act.put, List.getElem_toArray, List.getElem_cons_zero, List.getElem_cons_succ, List.setIfInBounds_toArray, List.set_cons_zero, List.set_cons_succ]
            refine wpAnyH_take (i := 18) (v := ?_) rfl (by kernel_rfl) (by kernel_rfl) (by kernel_rfl) (fun _ _ _ h => h) (Or.inl ⟨by rfl, ?_⟩) hHeld ?_
            rotate_left
            · intro w2 hSw
              go_simp
              all_goals rfl
            try simp only [Act.put, List.getElem_toArray, List.getElem_cons_zero, List.getElem_cons_succ, List.setIfInBounds_toArray, List.set_cons_zero, List.set_cons_succ]
            refine wpAnyH_take (i := 19) (v := ?_) rfl (by kernel_rfl) (by kernel_rfl) (by kernel_rfl) (fun _ _ _ h => h) (Or.inl ⟨by rfl, ?_⟩) hHeld ?_
            rotate_left
            · intro w2 hSw
              go_simp
              all_goals rfl
            try simp only [Act.put, List.getElem_toArray, List.getElem_cons_zero, List.getElem_cons_succ, List.setIfInBounds_toArray, List.set_cons_zero, List.set_cons_succ]
            refine wpAnyH_take (i := 20) (v := ?_) rfl (by kernel_rfl) (by kernel_rfl) (by kernel_rfl) (fun _ _ _ h => h) (Or.inl ⟨by rfl, ?_⟩) hHeld ?_
            rotate_left
            · intro w2 hSw
              go_simp
              all_goals rfl
            try simp only [Act.put, List.getElem_toArray, List.getElem_cons_zero, List.getElem_cons_succ, List.setIfInBounds_toArray, List.set_cons_zero, List.set_cons_succ]
            refine wpAnyH_ready (rs := [22]) (by kernel_rfl) (by simp) ?_
            refine AllReadyH.cons rfl (fun K hK => ?_) AllReadyH.nil
            rw [if_pos (by rfl)]
            refine wp_store_go _ _ _ rfl fb (entA E).toArray rfl rfl (ea.kept kn) (ent_size' _) ((ent_len _).trans (ent_len _).symm) (ent_ones' _) ?_
            intro ws os es
            have hH := hHeld.new os fun i hi => by omega
            refine hK.out _ _ hH (fun hHeld => ?_)
            clear hK K
            try simp only [Act.put, List.getElem_toArray, List.getElem_cons_zero, List.getElem_cons_succ]
            refine wpAnyH_take (i := 23) (v := ?_) rfl (by kernel_rfl) (by kernel_rfl) (by kernel_rfl) (fun _ _ _ h => h) (Or.inl ⟨by rfl, ?_⟩) hHeld ?_
            rotate_left
            · intro w2 hSw
              go_simp
              all_goals rfl
            try simp only [Act.put, List.getElem_toArray, List.getElem_cons_zero, List.getElem_cons_succ, List.setIfInBounds_toArray, List.set_cons_zero, List.set_cons_succ]
            refine wpAnyH_done (by kernel_rfl) ?_ _
            go_wp2_with fail
            go_meet
            case rel => exact ⟨fb, rfl, rfl, ((Only.refl _ wv).drew).then hH, es⟩
          case rest =>
            obtain ⟨fb, rfl, rfl, kx, fx⟩ := hcut
            go_upto_region 16 with fail
            have rx := range_kept rr kx
            refine wp_region_held_drew (S := fun w2 => Kept wc.drew w2) (by kernel_rfl) (Only.refl _ _) (fun hHeld => ?_)
            refine wpAnyH_take (i := 0) (v := ?_) rfl (by kernel_rfl) (by kernel_rfl) (by kernel_rfl) (fun _ _ _ h => h) (Or.inl ⟨by rfl, ?_⟩) hHeld ?_
            rotate_left
            · intro w2 hSw
              go_simp
              all_goals rfl
            try simp only [Act.put, List.getElem_toArray, List.getElem_cons_zero, List.setIfInBounds_toArray, List.set_cons_zero, List.set_cons_succ]
            refine wpAnyH_take (i := 1) (v := ?_) rfl (by kernel_rfl) (by kernel_rfl) (by kernel_rfl) (fun _ _ _ h => h) (Or.inl ⟨by rfl, ?_⟩) hHeld ?_
            rotate_left
            · intro w2 hSw
              go_simp
              all_goals rfl
            try simp only [Act.put, List.getElem_toArray, List.getElem_cons_zero, List.getElem_cons_succ, List.setIfInBounds_toArray, List.set_cons_zero, List.set_cons_succ]
            refine wpAnyH_take (i := 2) (v := ?_) rfl (by kernel_rfl) (by kernel_rfl) (by kernel_rfl) (fun _ _ _ h => h) (Or.inl ⟨by rfl, ?_⟩) hHeld ?_
            rotate_left
            · intro w2 hSw
              go_simp
              all_goals rfl
            try simp only [Act.put, List.getElem_toArray, List.getElem_cons_zero, List.getElem_cons_succ, List.setIfInBounds_toArray, List.set_cons_zero, List.set_cons_succ]
            refine wpAnyH_take (i := 3) (v := .agg (entA E).toArray) rfl (by kernel_rfl) (by kernel_rfl) (by kernel_rfl) (fun _ _ _ h => h) (Or.inl ⟨by rfl, ?_⟩) hHeld ?_
            · intro w2 hSw
              exact exec_load rfl rfl (run_loadVar_mid w2 fb 0 _ (entA E) _ (Blk.range (fx.kept ((((Only.refl _ wc).drew)).then hSw))) Try.underlying28 rfl (ent_size' _))
            try simp only [Act.put, List.getElem_toArray, List.getElem_cons_zero, List.getElem_cons_succ, List.setIfInBounds_toArray, List.set_cons_zero, List.set_cons_succ]
            refine wpAnyH_take (i := 4) (v := ?_) rfl (by kernel_rfl) (by kernel_rfl) (by kernel_rfl) (fun _ _ _ h => h) (Or.inl ⟨by rfl, ?_⟩) hHeld ?_
            rotate_left
            · intro w2 hSw
              go_simp
              all_goals rfl
            try simp only [Act.put, List.getElem_toArray, List.getElem_cons_zero, List.getElem_cons_succ, List.setIfInBounds_toArray, List.set_cons_zero, List.set_cons_succ]
            refine wpAnyH_take (i := 5) (v := ?_) rfl (by kernel_rfl) (by kernel_rfl) (by kernel_rfl) (fun _ _ _ h => h) (Or.inl ⟨by rfl, ?_⟩) hHeld ?_
            rotate_left
            · intro w2 hSw
              go_simp
              all_goals rfl
            try simp only [Act.put, List.getElem_toArray, List.getElem_cons_zero, List.getElem_cons_succ, List.setIfInBounds_toArray, List.set_cons_zero, List.set_cons_succ]
            refine wpAnyH_take (i := 6) (v := ?_) rfl (by kernel_rfl) (by kernel_rfl) (by kernel_rfl) (fun _ _ _ h => h) (Or.inl ⟨by rfl, ?_⟩) hHeld ?_
            rotate_left
            · intro w2 hSw
              go_simp
              all_goals rfl
            try simp only [Act.put, List.getElem_toArray, List.getElem_cons_zero, List.getElem_cons_succ, List.setIfInBounds_toArray, List.set_cons_zero, List.set_cons_succ]
            refine wpAnyH_take (i := 7) (v := .agg (entA E).toArray) rfl (by kernel_rfl) (by kernel_rfl) (by kernel_rfl) (fun _ _ _ h => h) (Or.inl ⟨by rfl, ?_⟩) hHeld ?_
            · intro w2 hSw
              exact exec_load rfl rfl (run_loadVar_mid w2 g (j * 9) _ (entA E) _ (range_kept rx ((((Only.refl _ wc).drew)).then hSw)) Try.underlying28 rfl (ent_size' _))
            try simp only [Act.put, List.getElem_toArray, List.getElem_cons_zero, List.getElem_cons_succ, List.setIfInBounds_toArray, List.set_cons_zero, List.set_cons_succ]
            refine wpAnyH_take (i := 8) (v := .bool false) rfl (by kernel_rfl) (by kernel_rfl) (by kernel_rfl) (fun _ _ _ h => h) (Or.inl ⟨by rfl, ?_⟩) hHeld ?_
            · intro w2 hSw
              exact exec_neE rfl rfl rfl
            try simp only [Act.put, List.getElem_toArray, List.getElem_cons_zero, List.getElem_cons_succ, List.setIfInBounds_toArray, List.set_cons_zero, List.set_cons_succ]
            refine wpAnyH_take (i := 9) (v := ?_) rfl (by kernel_rfl) (by kernel_rfl) (by kernel_rfl) (fun _ _ _ h => h) (Or.inl ⟨by rfl, ?_⟩) hHeld ?_
            rotate_left
            · intro w2 hSw
              go_simp
              all_goals rfl
            try simp only [Act.put, List.getElem_toArray, List.getElem_cons_zero, List.getElem_cons_succ, List.setIfInBounds_toArray, List.set_cons_zero, List.set_cons_succ]
            refine wpAnyH_done (by kernel_rfl) ?_ _
            have hk2 : j < 8 := hkeep
            go_wp2_with fail
            exact ⟨⟨j + 1, by omega, by go_num, (hgv.then kx).then ((Only.refl _ wc).drew)⟩, by simp [intOf]; omega⟩
        · obtain rfl : j = 8 := by omega
          obtain ⟨g, rfl, r3, hgb⟩ := hrow 3 (by omega)
          have sv := s9.kept hgv
          have r4 := range_kept r3 hgv
          have hn := mk_not p a c false a c
          have z1 : decide (0 ≤ dropI (mkT p a c) (mkE p a c 3)) = true := by rw [mk_drop]; rfl
          have z2 := mk_dropT p a c
          have z3 : decide (0 ≤ dropI (mkD p a c) (mkE p a c 3)) = false := by rw [mk_drop2]; rfl
          have z4 := mk_dropT2 p a c
          have z5 := mk_all p a c
          have z6 := mk_all2 p a c
          obtain ⟨X, hX⟩ : ∃ X, lookT (mkT p a c) (p + 1) false a c = X := ⟨_, rfl⟩
          clear hrow r3 s9 hgv hlen
          obtain ⟨T8, hT8⟩ : ∃ T8, mkT p a c = T8 := ⟨_, rfl⟩
          obtain ⟨T7, hT7⟩ : ∃ T7, mkD p a c = T7 := ⟨_, rfl⟩
          change St13 W wv b (mkT p a c) at sv
          rw [hT7] at z2 z3 z4 z6
          rw [hT8] at sv hn z1 z2 z5 hX
          clear hT8 hT7
          generalize mkE p a c 3 = E at *
          go_upto_region 19 with (first | (go_at_call 16; refine (tlook_any (hT.kept sv.k) sv.m (p + 1) false a c).mono ?_; rintro r w8 ⟨rfl, k8⟩; rw [hX, hn]) | (refine wpList_alloc_go rfl 28 rfl (entA entNone).toArray ent_zero' ?_; intro fb w9 n9 k9 m9 f9) | (refine wpList_store_go rfl 28 _ _ rfl fb (entA X).toArray rfl rfl f9 (ent_size' _) ((ent_len _).trans (ent_len _).symm) (ent_ones' _) ?_; intro w10 o10 f10))
          have kk : Kept wv w10 := (k8.then k9).new o10 fun i hi => by have := k8.size; omega
          have s10 := sv.kept kk
          have r10 := range_kept r4 kk
          clear sv kk k8 k9 o10 f9 f10 hn hX r4
          go_wp2_with fail
          refine (tall_any (hT.kept s10.k) s10.m).mono ?_
          rintro e w11 ⟨v11, rfl, ow, k11⟩
          obtain ⟨q11, p11, rfl⟩ := ow.form
          rw [z5]
          have s11 := s10.kept k11
          have r11 := range_kept r10 k11
          clear ow s10 k11 r10 z5
          go_wp2_with (refine wpList_load_mid_is (by rfl) 28 _ rfl g 27 rfl (entA E) _ r11 Try.underlying28 rfl (ent_size' _) ?_)
          refine (tdrop_any (hT.kept s11.k) s11.m E).mono ?_
          rintro e w12 ⟨rfl, m12, g12⟩
          rw [z1]
          rw [z2] at m12
          have s12 := s11.turn g12 m12
          have r12 : w12.rangeAt g 27 (entA E) := range_past r11 g12 hgb
          clear s11 r11 m12 g12 z1 z2
          go_wp2_with (refine wpList_load_mid_is (by rfl) 28 _ rfl g 27 rfl (entA E) _ r12 Try.underlying28 rfl (ent_size' _) ?_)
          refine (tdrop_any (hT.kept s12.k) s12.m E).mono ?_
          rintro e w13 ⟨rfl, m13, g13⟩
          rw [z3]
          rw [z4] at m13
          have s13 := s12.turn g13 m13
          clear s12 r12 m13 g13 z3 z4
          go_wp2_with fail
          refine (tflush_any (hT.kept s13.k) s13.m).mono ?_
          rintro e w14 ⟨rfl, m14, g14⟩
          rw [z6]
          have s14 := s13.turn g14 m14
          clear s13 m14 g14 z6
          go_wp2_with fail
          go_ret
          exact ⟨rfl, s14.k⟩
end Go.Proofs.Ytlfaklabghhdkaa
