/-
  What statement LegalGuest asks: walked for every argument.
-/
import Derived.Test.YthmanpfooegbcaaDoorLMore
import Derived.BigRegion
import Derived.Deep.Cut
namespace Go.Proofs.YthmanpfooegbcaaDoor
open Go.RowKit
theorem csr_range (S : StM) (n : Int) (w : Bool) : csrC S n w = 0 ∨ csrC S n w = 2 ∨ csrC S n w = 22 := by
  unfold csrC
  repeat' (first | exact .inl rfl | exact .inr (.inl rfl) | exact .inr (.inr rfl) | (rw [cond_eq_ite]; split))
theorem kep_range (S : StM) (k : Nat) : kepC S k = 0 ∨ kepC S k = 2 ∨ kepC S k = 22 := by
  unfold kepC
  repeat' (first | exact .inl rfl | exact .inr (.inl rfl) | exact .inr (.inr rfl) | (rw [cond_eq_ite]; split))
theorem wfi_range (S : StM) : wfiC S = 0 ∨ wfiC S = 2 ∨ wfiC S = 22 := by
  unfold wfiC
  repeat' (first | exact .inl rfl | exact .inr (.inl rfl) | exact .inr (.inr rfl) | (rw [cond_eq_ite]; split))
theorem hyp_range (S : StM) (op : Int) : hypC S op = 0 ∨ hypC S op = 2 ∨ hypC S op = 22 := by
  unfold hypC
  repeat' (first | exact .inl rfl | exact .inr (.inl rfl) | exact .inr (.inr rfl) | (rw [cond_eq_ite]; split))
theorem ins_range (S : StM) (op rd rs1 rs2 imm csr : Int) : insC S op rd rs1 rs2 imm csr = 0 ∨ insC S op rd rs1 rs2 imm csr = 2 ∨ insC S op rd rs1 rs2 imm csr = 22 := by
  unfold insC
  repeat' (first | exact .inl rfl | exact .inr (.inl rfl) | exact .inr (.inr rfl) | exact csr_range _ _ _ | exact kep_range _ _ | exact wfi_range _ | exact hyp_range _ _ | (rw [cond_eq_ite]; split))
theorem ins_host {S : StM} (hl : 4 ≤ lvlI S) {op rd rs1 rs2 imm csr : Int} (h0 : 64 ≤ op) (h1 : op ≤ 69) : insC S op rd rs1 rs2 imm csr = 2 ∨ insC S op rd rs1 rs2 imm csr = 22 := by
  cases hi : isB op rd rs1 rs2 imm csr
  · left; unfold insC; rw [hi]; rfl
  · right
    have hop : op = 64 ∨ op = 65 ∨ op = 66 ∨ op = 67 ∨ op = 68 ∨ op = 69 := by omega
    unfold insC hypC
    rw [hi, decide_eq_true hl]
    rcases hop with rfl | rfl | rfl | rfl | rfl | rfl <;> rfl
theorem guest_cl {T : StM} (h : T.Ok) {l : Int} (hl : l = 0 ∨ l = 1) : (setLvl (setV T true) l).Cl := by
  refine ⟨⟨h.X, h.pc, ?_, h.C, h.done⟩, ?_, fun e => ?_⟩
  · show I64 l
    unfold I64; omega
  · show l = 0 ∨ l = 1 ∨ l = 3
    omega
  · have e' : l = 3 := e
    omega
theorem num_there : ∀ k : Fin 29, okC (numI (k.val : Int)) = true ∧ (numI (k.val : Int) == 3074) = false := by decide +kernel
theorem guest_3 {G : StM} (hl : lvlI G = 4 ∨ lvlI G = 5) {n : Int} (ho : okC n = true) (hw : whoI n = 3) : csrC G n false = 2 := by
  unfold csrC
  rw [ho, hw]
  rcases hl with h | h <;> rw [h] <;> rfl
theorem guest_2 {G : StM} (hl : lvlI G = 4 ∨ lvlI G = 5) {n : Int} (ho : okC n = true) (h0 : (n == 3074) = false) (hw : whoI n = 2) : csrC G n false = 22 := by
  unfold csrC
  rw [ho, hw, h0]
  rcases hl with h | h <;> rw [h] <;> rfl
theorem guest_user {G : StM} (hl : lvlI G = 4) {n : Int} (ho : okC n = true) (h0 : (n == 3074) = false) (hw : whoI n = 0 ∨ whoI n = 1) : csrC G n false = 22 := by
  unfold csrC
  rw [ho, hl, h0]
  rcases hw with h | h <;> rw [h] <;> rfl
theorem Only.cell {S : Nat → Prop} {w w' : World} (k : Only S w w') {a : Addr} (hs : ¬ S a.block) {v : Value} (h : w.cell? a = some v) : w'.cell? a = some v := by
  unfold World.cell? at h ⊢
  by_cases hi : a.block < w.heap.size
  · rw [k.same _ hi hs]; exact h
  · rw [Array.getElem?_eq_none (by omega)] at h; cases h
theorem Six.only {S : Nat → Prop} {w w' : World} {b : Nat} {op rd rs1 rs2 imm csr : Int} (h : Six w b op rd rs1 rs2 imm csr) (g : Only S w w') (hb : ¬ S b) : Six w' b op rd rs1 rs2 imm csr := by
  obtain ⟨c0, c1, c2, c3, c4, c5⟩ := h
  exact ⟨g.cell hb c0, g.cell hb c1, g.cell hb c2, g.cell hb c3, g.cell hb c4, g.cell hb c5⟩
set_option maxRecDepth 10000 in
set_option maxHeartbeats 2000000 in
theorem lguest_any (S : StM) (x : Int) (u : Bool) (op rd rs1 rs2 imm csr : Int) (hS : S.Ok) (x0 : 0 ≤ x) (x1 : x ≤ 255) {W : World} (hT : Tab9 W) :
    Calls Tryd.prog 5 #[.agg (rowOf 65 (stF S)), .int .u8 x, .bool u, .agg #[.int .i64 op, .int .i64 rd, .int .i64 rs1, .int .i64 rs2, .int .i64 imm, .int .i64 csr]] W fun e w' => e = .returned (.bool true) ∧ Kept W w' := by
  obtain ⟨h0, i0, k0⟩ := two_boxes W S op rd rs1 rs2 imm csr
  go_enter Tryd.func5, Tryd.ntmps5
  go_wp2_with fail
  refine (known9_any hT k0).mono ?_
  rintro e w1 ⟨rfl, g1⟩
  have k1 := k0.then g1
  have h1 := h0.kept g1
  have i1 := i0.kept g1
  go_wp2_with (refine wpList_load_is (by rfl) 26 _ rfl rfl h1 _ Tryd.underlying26 rfl st_size ?_)
  refine (rclean_any S _).mono ?_
  rintro e w2 ⟨rfl, g2⟩
  have hC := cleanM_cl hS
  have k2 := k1.then g2
  have i2 := i1.kept g2
  generalize cleanM S = T at hC ⊢
  have h3 := st_new w2 T
  have k3 : Kept W (w2.alloc (.cells (rowOf 65 (stF T)) 26)) := k2.alloc _
  have i3 : Six (w2.alloc (.cells (rowOf 65 (stF T)) 26)) (W.heap.size + 1) op rd rs1 rs2 imm csr := i2.kept ((Only.refl _ w2).alloc _)
  have hb : W.heap.size + 1 < w2.heap.size := by
    have y1 := g1.size
    have y2 := g2.size
    rw [Go.Deep.nblk_alloc, Go.Deep.nblk_alloc] at y1
    omega
  go_upto_region 4 with (first | refine wpList_alloc_is rfl 26 rfl (rowOf 65 zF) st_zero ?_ | (refine wpList_store_is rfl 26 _ _ rfl rfl rfl (row_alloc _ 65 zF _) st_size (fun i _ => stF_one _ i) ?_; rw [World.setRow_alloc_new]))
  try simp only [Act.put, List.setIfInBounds_toArray, List.set_cons_zero, List.set_cons_succ]
  generalize w2.heap.size = b at hb h3 ⊢
  generalize w2.alloc (.cells (rowOf 65 (stF T)) 26) = w4 at h3 k3 i3 ⊢
  have cv := st_v h3
  have fv := World.rowIs.frozen h3 34
  have hA : StAt (w4.setCell ⟨b, 34, none⟩ (.bool true)) b (setV T true) := (World.rowIs.set h3 34 _).congr fun j _ => by rw [stF_v]
  have cl := st_lvl hA
  have fl := World.rowIs.frozen hA 33
  have oB : Only (fun j => j = b) w4 ((w4.setCell ⟨b, 34, none⟩ (.bool true)).setCell ⟨b, 33, none⟩ (.int .i64 1)) := ((Only.refl (fun j => j = b) w4).setCell (x := ⟨b, 34, none⟩) rfl _).setCell (x := ⟨b, 33, none⟩) rfl _
  have hB : StAt ((w4.setCell ⟨b, 34, none⟩ (.bool true)).setCell ⟨b, 33, none⟩ (.int .i64 1)) b (setLvl (setV T true) 1) := (World.rowIs.set hA 33 _).congr fun j _ => by rw [stF_lvl]
  have khB : Kept W ((w4.setCell ⟨b, 34, none⟩ (.bool true)).setCell ⟨b, 33, none⟩ (.int .i64 1)) := k3.new oB (fun j hj => by omega)
  have ihB := i3.only oB (show ¬ W.heap.size + 1 = b by omega)
  have cl2 := st_lvl hB
  have fl2 := World.rowIs.frozen hB 33
  have hD : StAt (((w4.setCell ⟨b, 34, none⟩ (.bool true)).setCell ⟨b, 33, none⟩ (.int .i64 1)).setCell ⟨b, 33, none⟩ (.int .i64 0)) b (setLvl (setV T true) 0) := (World.rowIs.set hB 33 _).congr fun j _ => (stF_lvl (setLvl (setV T true) 1) 0 j).symm
  have oD : Only (fun j => j = b) w4 (((w4.setCell ⟨b, 34, none⟩ (.bool true)).setCell ⟨b, 33, none⟩ (.int .i64 1)).setCell ⟨b, 33, none⟩ (.int .i64 0)) := oB.setCell (x := ⟨b, 33, none⟩) rfl _
  have khD : Kept W (((w4.setCell ⟨b, 34, none⟩ (.bool true)).setCell ⟨b, 33, none⟩ (.int .i64 1)).setCell ⟨b, 33, none⟩ (.int .i64 0)) := k3.new oD (fun j hj => by omega)
  have ihD := i3.only oD (show ¬ W.heap.size + 1 = b by omega)
  clear h3 k3 i3 oB oD
  cases u
  · have lG : lvlI (setLvl (setV T true) 1) = 5 := rfl
    have hG := guest_cl hC.ok (l := 1) (.inr rfl)
    go_wp2_with fail
    refine (rnum_any _ _).mono ?_
    rintro e w5 ⟨rfl, g5⟩
    have k5 := khB.then g5
    have h5 := hB.kept g5
    have i5 := ihB.kept g5
    obtain ⟨ho, hn⟩ : okC (numI (x % 29)) = true ∧ (numI (x % 29) == 3074) = false := by
      have e := num_there ⟨(x % 29).toNat, by omega⟩
      simp only at e
      rwa [show (((x % 29).toNat : Nat) : Int) = x % 29 by omega] at e
    clear cv fv cl fl cl2 fl2 hA hB hD
    generalize numI (x % 29) = n at ho hn ⊢
    generalize setLvl (setV T true) 1 = G at lG hG h5
    go_wp2_with (refine wpList_load_is (by rfl) 26 _ rfl rfl h5 _ Tryd.underlying26 rfl st_size ?_)
    refine (lcsr_any (hT.kept k5) hG _ _).mono ?_
    rintro e w6 ⟨rfl, g6⟩
    have k6 := k5.then g6
    have h6 := h5.kept g6
    obtain ⟨c0, c1, c2, c3, c4, c5⟩ := i5.kept g6
    rcases who_ways n with hw | hw | hw | hw
    · have hw' : bits .and .i64 (n / 256) 3 = 0 := hw
      generalize csrC G n false = a
      generalize (a == 0) = bz
      clear ho hn hw
      go_wp2_with (refine wpList_load_is (by rfl) 26 _ rfl rfl h6 _ Tryd.underlying26 rfl st_size ?_)
      refine (linsn_any (hT.kept k6) hG _ _ _ _ _ _).mono ?_
      rintro e w7 ⟨rfl, g7⟩
      have k7 := k6.then g7
      obtain ⟨a0, a1, a2, a3, a4, a5⟩ := (i5.kept g6).kept g7
      clear c0 c1 c2 c3 c4 c5 h6
      have hrng := ins_range G op rd rs1 rs2 imm csr
      have hhost := fun (y0 : 64 ≤ op) (y1 : op ≤ 69) => ins_host (S := G) (rd := rd) (rs1 := rs1) (rs2 := rs2) (imm := imm) (csr := csr) (by omega) y0 y1
      generalize insC G op rd rs1 rs2 imm csr = c at hrng hhost ⊢
      by_cases y0 : 64 ≤ op
      · by_cases y1 : op ≤ 69
        · have y2 : (op != 63) = true := bne_iff_ne.2 (by omega)
          have hz := hhost y0 y1
          clear hrng hhost
          rcases hz with rfl | rfl
          all_goals
            go_wp2
            go_ret
            exact ⟨rfl, k7⟩
        · clear hhost
          rcases hrng with rfl | rfl | rfl
          all_goals
            go_wp2
            go_ret
            exact ⟨rfl, k7⟩
      · clear hhost
        rcases hrng with rfl | rfl | rfl
        all_goals
          go_wp2
          go_ret
          exact ⟨rfl, k7⟩
    · have hw' : bits .and .i64 (n / 256) 3 = 1 := hw
      generalize csrC G n false = a
      generalize (a == 0) = bz
      clear ho hn hw
      go_wp2_with (refine wpList_load_is (by rfl) 26 _ rfl rfl h6 _ Tryd.underlying26 rfl st_size ?_)
      refine (linsn_any (hT.kept k6) hG _ _ _ _ _ _).mono ?_
      rintro e w7 ⟨rfl, g7⟩
      have k7 := k6.then g7
      obtain ⟨a0, a1, a2, a3, a4, a5⟩ := (i5.kept g6).kept g7
      clear c0 c1 c2 c3 c4 c5 h6
      have hrng := ins_range G op rd rs1 rs2 imm csr
      have hhost := fun (y0 : 64 ≤ op) (y1 : op ≤ 69) => ins_host (S := G) (rd := rd) (rs1 := rs1) (rs2 := rs2) (imm := imm) (csr := csr) (by omega) y0 y1
      generalize insC G op rd rs1 rs2 imm csr = c at hrng hhost ⊢
      by_cases y0 : 64 ≤ op
      · by_cases y1 : op ≤ 69
        · have y2 : (op != 63) = true := bne_iff_ne.2 (by omega)
          have hz := hhost y0 y1
          clear hrng hhost
          rcases hz with rfl | rfl
          all_goals
            go_wp2
            go_ret
            exact ⟨rfl, k7⟩
        · clear hhost
          rcases hrng with rfl | rfl | rfl
          all_goals
            go_wp2
            go_ret
            exact ⟨rfl, k7⟩
      · clear hhost
        rcases hrng with rfl | rfl | rfl
        all_goals
          go_wp2
          go_ret
          exact ⟨rfl, k7⟩
    · have hw' : bits .and .i64 (n / 256) 3 = 2 := hw
      rw [guest_2 (by omega) ho hn hw]
      clear ho hn hw
      go_wp2_with (refine wpList_load_is (by rfl) 26 _ rfl rfl h6 _ Tryd.underlying26 rfl st_size ?_)
      refine (linsn_any (hT.kept k6) hG _ _ _ _ _ _).mono ?_
      rintro e w7 ⟨rfl, g7⟩
      have k7 := k6.then g7
      obtain ⟨a0, a1, a2, a3, a4, a5⟩ := (i5.kept g6).kept g7
      clear c0 c1 c2 c3 c4 c5 h6
      have hrng := ins_range G op rd rs1 rs2 imm csr
      have hhost := fun (y0 : 64 ≤ op) (y1 : op ≤ 69) => ins_host (S := G) (rd := rd) (rs1 := rs1) (rs2 := rs2) (imm := imm) (csr := csr) (by omega) y0 y1
      generalize insC G op rd rs1 rs2 imm csr = c at hrng hhost ⊢
      by_cases y0 : 64 ≤ op
      · by_cases y1 : op ≤ 69
        · have y2 : (op != 63) = true := bne_iff_ne.2 (by omega)
          have hz := hhost y0 y1
          clear hrng hhost
          rcases hz with rfl | rfl
          all_goals
            go_wp2
            go_ret
            exact ⟨rfl, k7⟩
        · clear hhost
          rcases hrng with rfl | rfl | rfl
          all_goals
            go_wp2
            go_ret
            exact ⟨rfl, k7⟩
      · clear hhost
        rcases hrng with rfl | rfl | rfl
        all_goals
          go_wp2
          go_ret
          exact ⟨rfl, k7⟩
    · have hw' : bits .and .i64 (n / 256) 3 = 3 := hw
      rw [guest_3 (by omega) ho hw]
      clear ho hn hw
      go_wp2_with (refine wpList_load_is (by rfl) 26 _ rfl rfl h6 _ Tryd.underlying26 rfl st_size ?_)
      refine (linsn_any (hT.kept k6) hG _ _ _ _ _ _).mono ?_
      rintro e w7 ⟨rfl, g7⟩
      have k7 := k6.then g7
      obtain ⟨a0, a1, a2, a3, a4, a5⟩ := (i5.kept g6).kept g7
      clear c0 c1 c2 c3 c4 c5 h6
      have hrng := ins_range G op rd rs1 rs2 imm csr
      have hhost := fun (y0 : 64 ≤ op) (y1 : op ≤ 69) => ins_host (S := G) (rd := rd) (rs1 := rs1) (rs2 := rs2) (imm := imm) (csr := csr) (by omega) y0 y1
      generalize insC G op rd rs1 rs2 imm csr = c at hrng hhost ⊢
      by_cases y0 : 64 ≤ op
      · by_cases y1 : op ≤ 69
        · have y2 : (op != 63) = true := bne_iff_ne.2 (by omega)
          have hz := hhost y0 y1
          clear hrng hhost
          rcases hz with rfl | rfl
          all_goals
            go_wp2
            go_ret
            exact ⟨rfl, k7⟩
        · clear hhost
          rcases hrng with rfl | rfl | rfl
          all_goals
            go_wp2
            go_ret
            exact ⟨rfl, k7⟩
      · clear hhost
        rcases hrng with rfl | rfl | rfl
        all_goals
          go_wp2
          go_ret
          exact ⟨rfl, k7⟩
  · have lG : lvlI (setLvl (setV T true) 0) = 4 := rfl
    have hG := guest_cl hC.ok (l := 0) (.inl rfl)
    go_wp2_with fail
    refine (rnum_any _ _).mono ?_
    rintro e w5 ⟨rfl, g5⟩
    have k5 := khD.then g5
    have h5 := hD.kept g5
    have i5 := ihD.kept g5
    obtain ⟨ho, hn⟩ : okC (numI (x % 29)) = true ∧ (numI (x % 29) == 3074) = false := by
      have e := num_there ⟨(x % 29).toNat, by omega⟩
      simp only at e
      rwa [show (((x % 29).toNat : Nat) : Int) = x % 29 by omega] at e
    clear cv fv cl fl cl2 fl2 hA hB hD
    generalize numI (x % 29) = n at ho hn ⊢
    generalize setLvl (setV T true) 0 = G at lG hG h5
    go_wp2_with (refine wpList_load_is (by rfl) 26 _ rfl rfl h5 _ Tryd.underlying26 rfl st_size ?_)
    refine (lcsr_any (hT.kept k5) hG _ _).mono ?_
    rintro e w6 ⟨rfl, g6⟩
    have k6 := k5.then g6
    have h6 := h5.kept g6
    obtain ⟨c0, c1, c2, c3, c4, c5⟩ := i5.kept g6
    rcases who_ways n with hw | hw | hw | hw
    · have hw' : bits .and .i64 (n / 256) 3 = 0 := hw
      rw [guest_user lG ho hn (.inl hw)]
      clear ho hn hw
      go_wp2_with (refine wpList_load_is (by rfl) 26 _ rfl rfl h6 _ Tryd.underlying26 rfl st_size ?_)
      refine (linsn_any (hT.kept k6) hG _ _ _ _ _ _).mono ?_
      rintro e w7 ⟨rfl, g7⟩
      have k7 := k6.then g7
      obtain ⟨a0, a1, a2, a3, a4, a5⟩ := (i5.kept g6).kept g7
      clear c0 c1 c2 c3 c4 c5 h6
      have hrng := ins_range G op rd rs1 rs2 imm csr
      have hhost := fun (y0 : 64 ≤ op) (y1 : op ≤ 69) => ins_host (S := G) (rd := rd) (rs1 := rs1) (rs2 := rs2) (imm := imm) (csr := csr) (by omega) y0 y1
      generalize insC G op rd rs1 rs2 imm csr = c at hrng hhost ⊢
      by_cases y0 : 64 ≤ op
      · by_cases y1 : op ≤ 69
        · have y2 : (op != 63) = true := bne_iff_ne.2 (by omega)
          have hz := hhost y0 y1
          clear hrng hhost
          rcases hz with rfl | rfl
          all_goals
            go_wp2
            go_ret
            exact ⟨rfl, k7⟩
        · clear hhost
          rcases hrng with rfl | rfl | rfl
          all_goals
            go_wp2
            go_ret
            exact ⟨rfl, k7⟩
      · clear hhost
        rcases hrng with rfl | rfl | rfl
        all_goals
          go_wp2
          go_ret
          exact ⟨rfl, k7⟩
    · have hw' : bits .and .i64 (n / 256) 3 = 1 := hw
      rw [guest_user lG ho hn (.inr hw)]
      clear ho hn hw
      go_wp2_with (refine wpList_load_is (by rfl) 26 _ rfl rfl h6 _ Tryd.underlying26 rfl st_size ?_)
      refine (linsn_any (hT.kept k6) hG _ _ _ _ _ _).mono ?_
      rintro e w7 ⟨rfl, g7⟩
      have k7 := k6.then g7
      obtain ⟨a0, a1, a2, a3, a4, a5⟩ := (i5.kept g6).kept g7
      clear c0 c1 c2 c3 c4 c5 h6
      have hrng := ins_range G op rd rs1 rs2 imm csr
      have hhost := fun (y0 : 64 ≤ op) (y1 : op ≤ 69) => ins_host (S := G) (rd := rd) (rs1 := rs1) (rs2 := rs2) (imm := imm) (csr := csr) (by omega) y0 y1
      generalize insC G op rd rs1 rs2 imm csr = c at hrng hhost ⊢
      by_cases y0 : 64 ≤ op
      · by_cases y1 : op ≤ 69
        · have y2 : (op != 63) = true := bne_iff_ne.2 (by omega)
          have hz := hhost y0 y1
          clear hrng hhost
          rcases hz with rfl | rfl
          all_goals
            go_wp2
            go_ret
            exact ⟨rfl, k7⟩
        · clear hhost
          rcases hrng with rfl | rfl | rfl
          all_goals
            go_wp2
            go_ret
            exact ⟨rfl, k7⟩
      · clear hhost
        rcases hrng with rfl | rfl | rfl
        all_goals
          go_wp2
          go_ret
          exact ⟨rfl, k7⟩
    · have hw' : bits .and .i64 (n / 256) 3 = 2 := hw
      rw [guest_2 (by omega) ho hn hw]
      clear ho hn hw
      go_wp2_with (refine wpList_load_is (by rfl) 26 _ rfl rfl h6 _ Tryd.underlying26 rfl st_size ?_)
      refine (linsn_any (hT.kept k6) hG _ _ _ _ _ _).mono ?_
      rintro e w7 ⟨rfl, g7⟩
      have k7 := k6.then g7
      obtain ⟨a0, a1, a2, a3, a4, a5⟩ := (i5.kept g6).kept g7
      clear c0 c1 c2 c3 c4 c5 h6
      have hrng := ins_range G op rd rs1 rs2 imm csr
      have hhost := fun (y0 : 64 ≤ op) (y1 : op ≤ 69) => ins_host (S := G) (rd := rd) (rs1 := rs1) (rs2 := rs2) (imm := imm) (csr := csr) (by omega) y0 y1
      generalize insC G op rd rs1 rs2 imm csr = c at hrng hhost ⊢
      by_cases y0 : 64 ≤ op
      · by_cases y1 : op ≤ 69
        · have y2 : (op != 63) = true := bne_iff_ne.2 (by omega)
          have hz := hhost y0 y1
          clear hrng hhost
          rcases hz with rfl | rfl
          all_goals
            go_wp2
            go_ret
            exact ⟨rfl, k7⟩
        · clear hhost
          rcases hrng with rfl | rfl | rfl
          all_goals
            go_wp2
            go_ret
            exact ⟨rfl, k7⟩
      · clear hhost
        rcases hrng with rfl | rfl | rfl
        all_goals
          go_wp2
          go_ret
          exact ⟨rfl, k7⟩
    · have hw' : bits .and .i64 (n / 256) 3 = 3 := hw
      rw [guest_3 (by omega) ho hw]
      clear ho hn hw
      go_wp2_with (refine wpList_load_is (by rfl) 26 _ rfl rfl h6 _ Tryd.underlying26 rfl st_size ?_)
      refine (linsn_any (hT.kept k6) hG _ _ _ _ _ _).mono ?_
      rintro e w7 ⟨rfl, g7⟩
      have k7 := k6.then g7
      obtain ⟨a0, a1, a2, a3, a4, a5⟩ := (i5.kept g6).kept g7
      clear c0 c1 c2 c3 c4 c5 h6
      have hrng := ins_range G op rd rs1 rs2 imm csr
      have hhost := fun (y0 : 64 ≤ op) (y1 : op ≤ 69) => ins_host (S := G) (rd := rd) (rs1 := rs1) (rs2 := rs2) (imm := imm) (csr := csr) (by omega) y0 y1
      generalize insC G op rd rs1 rs2 imm csr = c at hrng hhost ⊢
      by_cases y0 : 64 ≤ op
      · by_cases y1 : op ≤ 69
        · have y2 : (op != 63) = true := bne_iff_ne.2 (by omega)
          have hz := hhost y0 y1
          clear hrng hhost
          rcases hz with rfl | rfl
          all_goals
            go_wp2
            go_ret
            exact ⟨rfl, k7⟩
        · clear hhost
          rcases hrng with rfl | rfl | rfl
          all_goals
            go_wp2
            go_ret
            exact ⟨rfl, k7⟩
      · clear hhost
        rcases hrng with rfl | rfl | rfl
        all_goals
          go_wp2
          go_ret
          exact ⟨rfl, k7⟩
end Go.Proofs.YthmanpfooegbcaaDoor
