/-
  What statement FenceTells asks: of every entries, state and instruction which entries go. Walked over the contracts.
-/
import Derived.Test.YtpfblbleendpiaaDoorFenFace
import Derived.Test.YtpfblbleendpiaaDoorTFenDo
import Derived.Test.YtpfblbleendpiaaDoorFenSame
import Derived.Deep.RegionHeld3
namespace Go.Proofs.YtpfblbleendpiaaDoor
open Go.RowKit
theorem st_two14 {w w' : World} {b rb c : Nat} {S : StM} (h : StAt w c S) (g : Only (fun i => i = b ∨ i = rb) w w') (h1 : c ≠ b) (h2 : c ≠ rb) : StAt w' c S := World.rowIs.of_block h (g.same c (World.rowIs.lt h) fun x => x.elim h1 h2)
theorem blk_two14 {w w' : World} {b rb c : Nat} {t : TypeId} {cs : Array Value} (h : Blk w c t cs) (g : Only (fun i => i = b ∨ i = rb) w w') (h1 : c ≠ b) (h2 : c ≠ rb) : Blk w' c t cs := g.block h fun x => x.elim h1 h2
theorem rem4 {x : Int} (h0 : 0 ≤ x) : (x.tmod 4 = 0 ∨ x.tmod 4 = 1 ∨ x.tmod 4 = 2 ∨ x.tmod 4 = 3) := by
  rw [Int.tmod_eq_emod_of_nonneg h0]
  omega
set_option maxRecDepth 100000 in
set_option maxHeartbeats 16000000 in
theorem ftells_short (q : Option Addr) (n cp : Nat) (L : Nat → EntM) (hn : n ≤ 40) {S : StM} (hS : S.Ok) (op rd rs1 rs2 imm csr page asid which : Int) (w0 : 0 ≤ which) (_ : which ≤ 255) {W : World} (hP : RowEn W q n L) (hT : Tab14 W) :
    Calls Tryd.prog 3 #[.slice q n cp, .agg (rowOf 65 (stF S)), .agg (inA op rd rs1 rs2 imm csr), .int .i64 page, .int .i64 asid, .int .u8 which] W fun e w' => e = .returned (.bool true) ∧ Kept W w' := by
  have l1 : ¬ (40 : Int) < (n : Int) := by omega
  have h0 := st_new W S
  have n1 : (W.alloc (.cells (rowOf 65 (stF S)) 27)).heap.size = W.heap.size + 1 := Go.Deep.nblk_alloc _ _
  have i0 := alloc_last (W.alloc (.cells (rowOf 65 (stF S)) 27)) (inA op rd rs1 rs2 imm csr) 29
  rw [n1] at i0
  have s0 : StAt ((W.alloc (.cells (rowOf 65 (stF S)) 27)).alloc (.cells (inA op rd rs1 rs2 imm csr) 29)) W.heap.size S := World.rowIs.of_block h0 (((Only.refl (fun _ => False) (W.alloc (.cells (rowOf 65 (stF S)) 27))).alloc _).same _ (World.rowIs.lt h0) id)
  have k0 : Kept W ((W.alloc (.cells (rowOf 65 (stF S)) 27)).alloc (.cells (inA op rd rs1 rs2 imm csr) 29)) := ((Only.refl _ W).alloc _).alloc _
  have hC := cleanM_ok hS
  clear h0 n1
  go_enter Tryd.func3, Tryd.ntmps3
  go_upto_region 1 with fail
  generalize (W.alloc (.cells (rowOf 65 (stF S)) 27)).alloc (.cells (inA op rd rs1 rs2 imm csr) 29) = w2 at i0 s0 k0 ⊢
  have hib0 : W.heap.size ≤ W.heap.size + 1 := by omega
  generalize W.heap.size + 1 = ib at i0 hib0 ⊢
  generalize W.heap.size = bb at s0 ⊢
  go_wp2_with fail
  refine (known14_any (hT.kept k0) (Only.refl _ w2)).mono ?_
  rintro e w3 ⟨rfl, k1⟩
  have h1 := st_kept14 s0 k1
  have i1 := Blk.kept i0 k1
  have k2 : Kept W w3 := k0.then k1
  clear s0 k0 k1 i0
  go_upto_region 6 with (first | (refine wpList_load_is (by rfl) 27 _ rfl rfl h1 _ Tryd.underlying27 rfl st_size ?_) | (go_at_call 5; refine (rclean_any S _).mono ?_; rintro e w4 ⟨rfl, k3⟩) | refine wpList_alloc_is rfl 27 rfl (rowOf 65 zF) st_zero ?_ | (refine wpList_store_is rfl 27 _ _ rfl rfl rfl (row_alloc _ 65 zF _) st_size (fun i _ => stF_one _ i) ?_; rw [World.setRow_alloc_new]))
  generalize cleanM S = C at *
  have h2 := st_new w4 C
  have k4 : Kept W (w4.alloc (.cells (rowOf 65 (stF C)) 27)) := (k2.then k3).alloc _
  have i2 := Blk.kept i1 (k3.alloc (.cells (rowOf 65 (stF C)) 27))
  have hsb0 : W.heap.size ≤ w4.heap.size := (k2.then k3).size
  try simp only [Act.put]
  generalize w4.alloc (.cells (rowOf 65 (stF C)) 27) = wx at h2 k4 i2 ⊢
  generalize w4.heap.size = sb at h2 hsb0 ⊢
  clear k2 k3 h1 i1
  go_wp2_with fail
  refine (filled_any q n cp L hn (hP.kept k4) (hT.kept k4)).mono ?_
  rintro e w5 ⟨b, rb, rfl, f5⟩
  have ls := World.rowIs.lt h2
  have li := Blk.lt i2
  have hsb : sb ≠ b := by have := f5.hb; omega
  have hsr : sb ≠ rb := by have := f5.hr; omega
  have hib : ib ≠ b := by have := f5.hb; omega
  have hir : ib ≠ rb := by have := f5.hr; omega
  have hbr : b ≠ rb := f5.ne
  have hb : W.heap.size ≤ b := Nat.le_trans k4.size f5.hb
  have hr : W.heap.size ≤ rb := Nat.le_trans k4.size f5.hr
  have p5 := f5.p
  have r5 := f5.r
  have s5 := st_kept14 h2 f5.k
  have i5 := Blk.kept i2 f5.k
  have k5 := k4.then f5.k
  have hI := inv_fillN L n
  clear f5 h2 i2 k4 ls li hP hsb0 hib0 l1
  generalize fillN L n = T at *
  rcases rem4 w0 with hw | hw | hw | hw
  · skip
    go_upto_region 11 with fail
    have kd : Kept w5 w5.drew := (Only.refl _ w5).drew
    have p9 := p5.kept kd
    have r9 := r5.kept kd
    have s9 := st_kept14 s5 kd
    have i9 := i5.kept kd
    have k9 := k5.then kd
    clear p5 r5 s5 i5 k5 kd
    refine wp_region_held_drew (S := fun w2 => Only (fun i => i = b ∨ i = rb) w5.drew w2) (by kernel_rfl) (Only.refl _ _) (fun hHeld => ?_)
    generalize w5.drew = wd at *
    refine wpAnyH_take (i := 0) (v := ?_) rfl (by kernel_rfl) (by kernel_rfl) (by kernel_rfl) (fun _ _ _ h => h) (Or.inl ⟨by rfl, ?_⟩) hHeld ?_
    rotate_left
    · intro w2 hSw
      go_simp
      all_goals rfl
    try simp only [Act.put, List.getElem_toArray, List.getElem_cons_zero, List.setIfInBounds_toArray, List.set_cons_zero, List.set_cons_succ]
    refine wpAnyH_take (i := 1) (v := .agg (rowOf 65 (stF C))) rfl (by kernel_rfl) (by kernel_rfl) (by kernel_rfl) (fun _ _ _ h => h) (Or.inl ⟨by rfl, ?_⟩) hHeld ?_
    · intro w2 hSw
      exact exec_load rfl rfl (load_state (st_two14 s9 hSw hsb hsr))
    try simp only [Act.put, List.getElem_toArray, List.getElem_cons_zero, List.getElem_cons_succ, List.setIfInBounds_toArray, List.set_cons_zero, List.set_cons_succ]
    refine wpAnyH_take (i := 2) (v := ?_) rfl (by kernel_rfl) (by kernel_rfl) (by kernel_rfl) (fun _ _ _ h => h) (Or.inl ⟨by rfl, ?_⟩) hHeld ?_
    rotate_left
    · intro w2 hSw
      go_simp
      all_goals rfl
    try simp only [Act.put, List.getElem_toArray, List.getElem_cons_zero, List.getElem_cons_succ, List.setIfInBounds_toArray, List.set_cons_zero, List.set_cons_succ]
    refine wpAnyH_take (i := 3) (v := ?_) rfl (by kernel_rfl) (by kernel_rfl) (by kernel_rfl) (fun _ _ _ h => h) (Or.inl ⟨by rfl, ?_⟩) hHeld ?_
    rotate_left
    · intro w2 hSw
      go_simp
      all_goals rfl
    try simp only [Act.put, List.getElem_toArray, List.getElem_cons_zero, List.getElem_cons_succ, List.setIfInBounds_toArray, List.set_cons_zero, List.set_cons_succ]
    refine wpAnyH_take (i := 5) (v := ?_) rfl (by kernel_rfl) (by kernel_rfl) (by kernel_rfl) (fun _ _ _ h => h) (Or.inl ⟨by rfl, ?_⟩) hHeld ?_
    rotate_left
    · intro w2 hSw
      go_simp
      all_goals rfl
    try simp only [Act.put, List.getElem_toArray, List.getElem_cons_zero, List.getElem_cons_succ, List.setIfInBounds_toArray, List.set_cons_zero, List.set_cons_succ]
    refine wpAnyH_take (i := 6) (v := .agg (rowOf 65 (stF C))) rfl (by kernel_rfl) (by kernel_rfl) (by kernel_rfl) (fun _ _ _ h => h) (Or.inl ⟨by rfl, ?_⟩) hHeld ?_
    · intro w2 hSw
      exact exec_load rfl rfl (load_state (st_two14 s9 hSw hsb hsr))
    try simp only [Act.put, List.getElem_toArray, List.getElem_cons_zero, List.getElem_cons_succ, List.setIfInBounds_toArray, List.set_cons_zero, List.set_cons_succ]
    refine wpAnyH_take (i := 7) (v := ?_) rfl (by kernel_rfl) (by kernel_rfl) (by kernel_rfl) (fun _ _ _ h => h) (Or.inl ⟨by rfl, ?_⟩) hHeld ?_
    rotate_left
    · intro w2 hSw
      go_simp
      all_goals rfl
    try simp only [Act.put, List.getElem_toArray, List.getElem_cons_zero, List.getElem_cons_succ, List.setIfInBounds_toArray, List.set_cons_zero, List.set_cons_succ]
    refine wpAnyH_take (i := 8) (v := .bool C.v) rfl (by kernel_rfl) (by kernel_rfl) (by kernel_rfl) (fun _ _ _ h => h) (Or.inl ⟨by rfl, ?_⟩) hHeld ?_
    · intro w2 hSw
      exact exec_load rfl rfl (run_loadVar_cell9 (st_v (st_two14 s9 hSw hsb hsr)) rfl Tryd.underlying4)
    try simp only [Act.put, List.getElem_toArray, List.getElem_cons_zero, List.getElem_cons_succ, List.setIfInBounds_toArray, List.set_cons_zero, List.set_cons_succ]
    refine wpAnyH_take (i := 9) (v := ?_) rfl (by kernel_rfl) (by kernel_rfl) (by kernel_rfl) (fun _ _ _ h => h) (Or.inl ⟨by rfl, ?_⟩) hHeld ?_
    rotate_left
    · intro w2 hSw
      go_simp
      all_goals rfl
    try simp only [Act.put, List.getElem_toArray, List.getElem_cons_zero, List.getElem_cons_succ, List.setIfInBounds_toArray, List.set_cons_zero, List.set_cons_succ]
    refine wpAnyH_take (i := 10) (v := ?_) rfl (by kernel_rfl) (by kernel_rfl) (by kernel_rfl) (fun _ _ _ h => h) (Or.inl ⟨by rfl, ?_⟩) hHeld ?_
    rotate_left
    · intro w2 hSw
      go_simp
      all_goals rfl
    try simp only [Act.put, List.getElem_toArray, List.getElem_cons_zero, List.getElem_cons_succ, List.setIfInBounds_toArray, List.set_cons_zero, List.set_cons_succ]
    refine wpAnyH_ready (rs := [4]) (by kernel_rfl) (by simp) ?_
    refine AllReadyH.cons rfl (fun K hK => ?_) AllReadyH.nil
    go_simp
    refine (fsfence_any (hT.kept k9) p9 hI hC page asid).mono ?_
    rintro e wA ⟨rfl, mA, gA⟩
    go_simp
    refine hK.out _ _ (gA.mono fun _ x => .inl x) (fun hHeld => ?_)
    clear hK K
    try simp only [Act.put, List.getElem_toArray, List.getElem_cons_zero, List.getElem_cons_succ, List.setIfInBounds_toArray, List.set_cons_zero, List.set_cons_succ]
    have rA := r9.same gA (fun x => hbr x.symm)
    refine wpAnyH_ready (rs := [11]) (by kernel_rfl) (by simp) ?_
    refine AllReadyH.cons rfl (fun K hK => ?_) AllReadyH.nil
    go_simp
    refine (rsfence_any rA hC C.v page asid).mono ?_
    rintro e wB ⟨rfl, mB, gB⟩
    go_simp
    refine hK.out _ _ ((gA.mono fun _ x => .inl x).trans (gB.mono fun _ x => .inr x)) (fun hHeld => ?_)
    clear hK K
    try simp only [Act.put, List.getElem_toArray, List.getElem_cons_zero, List.getElem_cons_succ, List.setIfInBounds_toArray, List.set_cons_zero, List.set_cons_succ]
    refine wpAnyH_take (i := 12) (v := ?_) rfl (by kernel_rfl) (by kernel_rfl) (by kernel_rfl) (fun _ _ _ h => h) (Or.inl ⟨by rfl, ?_⟩) hHeld ?_
    rotate_left
    · intro w2 hSw
      go_simp
      all_goals rfl
    try simp only [Act.put, List.getElem_toArray, List.getElem_cons_zero, List.getElem_cons_succ, List.setIfInBounds_toArray, List.set_cons_zero, List.set_cons_succ]
    refine wpAnyH_take (i := 13) (v := ?_) rfl (by kernel_rfl) (by kernel_rfl) (by kernel_rfl) (fun _ _ _ h => h) (Or.inl ⟨by rfl, ?_⟩) hHeld ?_
    rotate_left
    · intro w2 hSw
      go_simp
      all_goals rfl
    try simp only [Act.put, List.getElem_toArray, List.getElem_cons_zero, List.getElem_cons_succ, List.setIfInBounds_toArray, List.set_cons_zero, List.set_cons_succ]
    refine wpAnyH_done (by kernel_rfl) ?_ _
    have pF := mA.same gB hbr
    have kF : Kept W wB := (k9.new gA fun i hi => by rw [hi]; exact hb).new gB fun i hi => by rw [hi]; exact hr
    clear mA gA gB p9 r9 k9
    generalize cntT (sfeB C C.v page asid) T = c at *
    generalize wipeT (sfeB C C.v page asid) T = T1 at *
    have hlen : (allT T1).length ≤ 16 := all_len T1 16 0
    go_wp2_with fail
    refine (tall_any (hT.kept kF).tl pF).mono ?_
    rintro e wC ⟨v1, rfl, o1, kC⟩
    obtain ⟨q1, c1, rfl⟩ := o1.form
    have rC := mB.kept kC
    have kG := kF.then kC
    clear pF mB kF kC
    go_wp2_with fail
    refine (rtall_any rC).mono ?_
    rintro e wD ⟨v2, rfl, o2, kD⟩
    obtain ⟨q2, c2, rfl⟩ := o2.form
    have o3 := o1.kept kD
    have kH := kG.then kD
    clear o1 rC kD kG
    go_wp2_with fail
    refine (same14_any (by omega) o3.row o2.row).mono ?_
    rintro e wE ⟨rfl, kE⟩
    have kI := kH.then kE
    clear o2 o3 kH kE
    go_wp2_with fail
    go_ret
    exact ⟨rfl, kI⟩
  · skip
    go_upto_region 13 with fail
    have kd : Kept w5 w5.drew := (Only.refl _ w5).drew
    have p9 := p5.kept kd
    have r9 := r5.kept kd
    have s9 := st_kept14 s5 kd
    have i9 := i5.kept kd
    have k9 := k5.then kd
    clear p5 r5 s5 i5 k5 kd
    refine wp_region_held_drew (S := fun w2 => Only (fun i => i = b ∨ i = rb) w5.drew w2) (by kernel_rfl) (Only.refl _ _) (fun hHeld => ?_)
    generalize w5.drew = wd at *
    refine wpAnyH_take (i := 0) (v := ?_) rfl (by kernel_rfl) (by kernel_rfl) (by kernel_rfl) (fun _ _ _ h => h) (Or.inl ⟨by rfl, ?_⟩) hHeld ?_
    rotate_left
    · intro w2 hSw
      go_simp
      all_goals rfl
    try simp only [Act.put, List.getElem_toArray, List.getElem_cons_zero, List.setIfInBounds_toArray, List.set_cons_zero, List.set_cons_succ]
    refine wpAnyH_take (i := 1) (v := .agg (rowOf 65 (stF C))) rfl (by kernel_rfl) (by kernel_rfl) (by kernel_rfl) (fun _ _ _ h => h) (Or.inl ⟨by rfl, ?_⟩) hHeld ?_
    · intro w2 hSw
      exact exec_load rfl rfl (load_state (st_two14 s9 hSw hsb hsr))
    try simp only [Act.put, List.getElem_toArray, List.getElem_cons_zero, List.getElem_cons_succ, List.setIfInBounds_toArray, List.set_cons_zero, List.set_cons_succ]
    refine wpAnyH_take (i := 2) (v := ?_) rfl (by kernel_rfl) (by kernel_rfl) (by kernel_rfl) (fun _ _ _ h => h) (Or.inl ⟨by rfl, ?_⟩) hHeld ?_
    rotate_left
    · intro w2 hSw
      go_simp
      all_goals rfl
    try simp only [Act.put, List.getElem_toArray, List.getElem_cons_zero, List.getElem_cons_succ, List.setIfInBounds_toArray, List.set_cons_zero, List.set_cons_succ]
    refine wpAnyH_take (i := 3) (v := ?_) rfl (by kernel_rfl) (by kernel_rfl) (by kernel_rfl) (fun _ _ _ h => h) (Or.inl ⟨by rfl, ?_⟩) hHeld ?_
    rotate_left
    · intro w2 hSw
      go_simp
      all_goals rfl
    try simp only [Act.put, List.getElem_toArray, List.getElem_cons_zero, List.getElem_cons_succ, List.setIfInBounds_toArray, List.set_cons_zero, List.set_cons_succ]
    refine wpAnyH_take (i := 5) (v := ?_) rfl (by kernel_rfl) (by kernel_rfl) (by kernel_rfl) (fun _ _ _ h => h) (Or.inl ⟨by rfl, ?_⟩) hHeld ?_
    rotate_left
    · intro w2 hSw
      go_simp
      all_goals rfl
    try simp only [Act.put, List.getElem_toArray, List.getElem_cons_zero, List.getElem_cons_succ, List.setIfInBounds_toArray, List.set_cons_zero, List.set_cons_succ]
    refine wpAnyH_take (i := 6) (v := .agg (rowOf 65 (stF C))) rfl (by kernel_rfl) (by kernel_rfl) (by kernel_rfl) (fun _ _ _ h => h) (Or.inl ⟨by rfl, ?_⟩) hHeld ?_
    · intro w2 hSw
      exact exec_load rfl rfl (load_state (st_two14 s9 hSw hsb hsr))
    try simp only [Act.put, List.getElem_toArray, List.getElem_cons_zero, List.getElem_cons_succ, List.setIfInBounds_toArray, List.set_cons_zero, List.set_cons_succ]
    refine wpAnyH_take (i := 7) (v := ?_) rfl (by kernel_rfl) (by kernel_rfl) (by kernel_rfl) (fun _ _ _ h => h) (Or.inl ⟨by rfl, ?_⟩) hHeld ?_
    rotate_left
    · intro w2 hSw
      go_simp
      all_goals rfl
    try simp only [Act.put, List.getElem_toArray, List.getElem_cons_zero, List.getElem_cons_succ, List.setIfInBounds_toArray, List.set_cons_zero, List.set_cons_succ]
    refine wpAnyH_take (i := 8) (v := ?_) rfl (by kernel_rfl) (by kernel_rfl) (by kernel_rfl) (fun _ _ _ h => h) (Or.inl ⟨by rfl, ?_⟩) hHeld ?_
    rotate_left
    · intro w2 hSw
      go_simp
      all_goals rfl
    try simp only [Act.put, List.getElem_toArray, List.getElem_cons_zero, List.getElem_cons_succ, List.setIfInBounds_toArray, List.set_cons_zero, List.set_cons_succ]
    refine wpAnyH_ready (rs := [4]) (by kernel_rfl) (by simp) ?_
    refine AllReadyH.cons rfl (fun K hK => ?_) AllReadyH.nil
    go_simp
    refine (fguest_any (hT.kept k9) p9 hI hC page asid).mono ?_
    rintro e wA ⟨rfl, mA, gA⟩
    go_simp
    refine hK.out _ _ (gA.mono fun _ x => .inl x) (fun hHeld => ?_)
    clear hK K
    try simp only [Act.put, List.getElem_toArray, List.getElem_cons_zero, List.getElem_cons_succ, List.setIfInBounds_toArray, List.set_cons_zero, List.set_cons_succ]
    have rA := r9.same gA (fun x => hbr x.symm)
    refine wpAnyH_ready (rs := [9]) (by kernel_rfl) (by simp) ?_
    refine AllReadyH.cons rfl (fun K hK => ?_) AllReadyH.nil
    go_simp
    refine (rsfence_any rA hC true page asid).mono ?_
    rintro e wB ⟨rfl, mB, gB⟩
    go_simp
    refine hK.out _ _ ((gA.mono fun _ x => .inl x).trans (gB.mono fun _ x => .inr x)) (fun hHeld => ?_)
    clear hK K
    try simp only [Act.put, List.getElem_toArray, List.getElem_cons_zero, List.getElem_cons_succ, List.setIfInBounds_toArray, List.set_cons_zero, List.set_cons_succ]
    refine wpAnyH_take (i := 10) (v := ?_) rfl (by kernel_rfl) (by kernel_rfl) (by kernel_rfl) (fun _ _ _ h => h) (Or.inl ⟨by rfl, ?_⟩) hHeld ?_
    rotate_left
    · intro w2 hSw
      go_simp
      all_goals rfl
    try simp only [Act.put, List.getElem_toArray, List.getElem_cons_zero, List.getElem_cons_succ, List.setIfInBounds_toArray, List.set_cons_zero, List.set_cons_succ]
    refine wpAnyH_take (i := 11) (v := ?_) rfl (by kernel_rfl) (by kernel_rfl) (by kernel_rfl) (fun _ _ _ h => h) (Or.inl ⟨by rfl, ?_⟩) hHeld ?_
    rotate_left
    · intro w2 hSw
      go_simp
      all_goals rfl
    try simp only [Act.put, List.getElem_toArray, List.getElem_cons_zero, List.getElem_cons_succ, List.setIfInBounds_toArray, List.set_cons_zero, List.set_cons_succ]
    refine wpAnyH_done (by kernel_rfl) ?_ _
    have pF := mA.same gB hbr
    have kF : Kept W wB := (k9.new gA fun i hi => by rw [hi]; exact hb).new gB fun i hi => by rw [hi]; exact hr
    clear mA gA gB p9 r9 k9
    generalize cntT (sfeB C true page asid) T = c at *
    generalize wipeT (sfeB C true page asid) T = T1 at *
    have hlen : (allT T1).length ≤ 16 := all_len T1 16 0
    go_wp2_with fail
    refine (tall_any (hT.kept kF).tl pF).mono ?_
    rintro e wC ⟨v1, rfl, o1, kC⟩
    obtain ⟨q1, c1, rfl⟩ := o1.form
    have rC := mB.kept kC
    have kG := kF.then kC
    clear pF mB kF kC
    go_wp2_with fail
    refine (rtall_any rC).mono ?_
    rintro e wD ⟨v2, rfl, o2, kD⟩
    obtain ⟨q2, c2, rfl⟩ := o2.form
    have o3 := o1.kept kD
    have kH := kG.then kD
    clear o1 rC kD kG
    go_wp2_with fail
    refine (same14_any (by omega) o3.row o2.row).mono ?_
    rintro e wE ⟨rfl, kE⟩
    have kI := kH.then kE
    clear o2 o3 kH kE
    go_wp2_with fail
    go_ret
    exact ⟨rfl, kI⟩
  · go_wp2_with (first | (refine wpList_load_is (by rfl) 27 _ rfl rfl s5 _ Tryd.underlying27 rfl st_size ?_))
    refine (fhost_any (hT.kept k5) p5 hI hC page asid).mono ?_
    rintro e wA ⟨rfl, mA, gA⟩
    have rA := r5.same gA (fun x => hbr x.symm)
    have k9 := k5
    have p9 := p5
    have r9 := r5
    clear p5 r5 s5 i5 k5
    go_wp2_with fail
    refine (rhost_any rA page asid).mono ?_
    rintro e wB ⟨rfl, mB, gB⟩
    clear rA
    have pF := mA.same gB hbr
    have kF : Kept W wB := (k9.new gA fun i hi => by rw [hi]; exact hb).new gB fun i hi => by rw [hi]; exact hr
    clear mA gA gB p9 r9 k9
    generalize cntT (hosB page asid) T = c at *
    generalize wipeT (hosB page asid) T = T1 at *
    have hlen : (allT T1).length ≤ 16 := all_len T1 16 0
    go_wp2_with fail
    refine (tall_any (hT.kept kF).tl pF).mono ?_
    rintro e wC ⟨v1, rfl, o1, kC⟩
    obtain ⟨q1, c1, rfl⟩ := o1.form
    have rC := mB.kept kC
    have kG := kF.then kC
    clear pF mB kF kC
    go_wp2_with fail
    refine (rtall_any rC).mono ?_
    rintro e wD ⟨v2, rfl, o2, kD⟩
    obtain ⟨q2, c2, rfl⟩ := o2.form
    have o3 := o1.kept kD
    have kH := kG.then kD
    clear o1 rC kD kG
    go_wp2_with fail
    refine (same14_any (by omega) o3.row o2.row).mono ?_
    rintro e wE ⟨rfl, kE⟩
    have kI := kH.then kE
    clear o2 o3 kH kE
    go_wp2_with fail
    go_ret
    exact ⟨rfl, kI⟩
  · skip
    go_upto_region 9 with fail
    have kd : Kept w5 w5.drew := (Only.refl _ w5).drew
    have p9 := p5.kept kd
    have r9 := r5.kept kd
    have s9 := st_kept14 s5 kd
    have i9 := i5.kept kd
    have k9 := k5.then kd
    clear p5 r5 s5 i5 k5 kd
    refine wp_region_held_drew (S := fun w2 => Only (fun i => i = b ∨ i = rb) w5.drew w2) (by kernel_rfl) (Only.refl _ _) (fun hHeld => ?_)
    generalize w5.drew = wd at *
    refine wpAnyH_take (i := 0) (v := ?_) rfl (by kernel_rfl) (by kernel_rfl) (by kernel_rfl) (fun _ _ _ h => h) (Or.inl ⟨by rfl, ?_⟩) hHeld ?_
    rotate_left
    · intro w2 hSw
      go_simp
      all_goals rfl
    try simp only [Act.put, List.getElem_toArray, List.getElem_cons_zero, List.setIfInBounds_toArray, List.set_cons_zero, List.set_cons_succ]
    refine wpAnyH_take (i := 1) (v := .agg (rowOf 65 (stF C))) rfl (by kernel_rfl) (by kernel_rfl) (by kernel_rfl) (fun _ _ _ h => h) (Or.inl ⟨by rfl, ?_⟩) hHeld ?_
    · intro w2 hSw
      exact exec_load rfl rfl (load_state (st_two14 s9 hSw hsb hsr))
    try simp only [Act.put, List.getElem_toArray, List.getElem_cons_zero, List.getElem_cons_succ, List.setIfInBounds_toArray, List.set_cons_zero, List.set_cons_succ]
    refine wpAnyH_take (i := 2) (v := .agg (inA op rd rs1 rs2 imm csr)) rfl (by kernel_rfl) (by kernel_rfl) (by kernel_rfl) (fun _ _ _ h => h) (Or.inl ⟨by rfl, ?_⟩) hHeld ?_
    · intro w2 hSw
      exact exec_load rfl rfl (run_loadVar_mid _ ib 0 _ (inA op rd rs1 rs2 imm csr).toList _ (Blk.range (blk_two14 i9 hSw hib hir)) Tryd.underlying29 rfl (ins_size' _ _ _ _ _ _))
    try simp only [Act.put, List.getElem_toArray, List.getElem_cons_zero, List.getElem_cons_succ, List.setIfInBounds_toArray, List.set_cons_zero, List.set_cons_succ]
    refine wpAnyH_take (i := 4) (v := ?_) rfl (by kernel_rfl) (by kernel_rfl) (by kernel_rfl) (fun _ _ _ h => h) (Or.inl ⟨by rfl, ?_⟩) hHeld ?_
    rotate_left
    · intro w2 hSw
      go_simp
      all_goals rfl
    try simp only [Act.put, List.getElem_toArray, List.getElem_cons_zero, List.getElem_cons_succ, List.setIfInBounds_toArray, List.set_cons_zero, List.set_cons_succ]
    refine wpAnyH_take (i := 5) (v := .agg (rowOf 65 (stF C))) rfl (by kernel_rfl) (by kernel_rfl) (by kernel_rfl) (fun _ _ _ h => h) (Or.inl ⟨by rfl, ?_⟩) hHeld ?_
    · intro w2 hSw
      exact exec_load rfl rfl (load_state (st_two14 s9 hSw hsb hsr))
    try simp only [Act.put, List.getElem_toArray, List.getElem_cons_zero, List.getElem_cons_succ, List.setIfInBounds_toArray, List.set_cons_zero, List.set_cons_succ]
    refine wpAnyH_take (i := 6) (v := .agg (inA op rd rs1 rs2 imm csr)) rfl (by kernel_rfl) (by kernel_rfl) (by kernel_rfl) (fun _ _ _ h => h) (Or.inl ⟨by rfl, ?_⟩) hHeld ?_
    · intro w2 hSw
      exact exec_load rfl rfl (run_loadVar_mid _ ib 0 _ (inA op rd rs1 rs2 imm csr).toList _ (Blk.range (blk_two14 i9 hSw hib hir)) Tryd.underlying29 rfl (ins_size' _ _ _ _ _ _))
    try simp only [Act.put, List.getElem_toArray, List.getElem_cons_zero, List.getElem_cons_succ, List.setIfInBounds_toArray, List.set_cons_zero, List.set_cons_succ]
    refine wpAnyH_ready (rs := [3]) (by kernel_rfl) (by simp) ?_
    refine AllReadyH.cons rfl (fun K hK => ?_) AllReadyH.nil
    go_simp
    refine (fdo_any (hT.kept k9) p9 hI hC op rd rs1 rs2 imm csr).mono ?_
    rintro e wA ⟨rfl, mA, gA⟩
    go_simp
    refine hK.out _ _ (gA.mono fun _ x => .inl x) (fun hHeld => ?_)
    clear hK K
    try simp only [Act.put, List.getElem_toArray, List.getElem_cons_zero, List.getElem_cons_succ, List.setIfInBounds_toArray, List.set_cons_zero, List.set_cons_succ]
    have rA := r9.same gA (fun x => hbr x.symm)
    refine wpAnyH_ready (rs := [7]) (by kernel_rfl) (by simp) ?_
    refine AllReadyH.cons rfl (fun K hK => ?_) AllReadyH.nil
    go_simp
    refine (rdo_any rA p9.z hC op rd rs1 rs2 imm csr).mono ?_
    rintro e wB ⟨rfl, mB, gB⟩
    go_simp
    refine hK.out _ _ ((gA.mono fun _ x => .inl x).trans (gB.mono fun _ x => .inr x)) (fun hHeld => ?_)
    clear hK K
    try simp only [Act.put, List.getElem_toArray, List.getElem_cons_zero, List.getElem_cons_succ, List.setIfInBounds_toArray, List.set_cons_zero, List.set_cons_succ]
    refine wpAnyH_take (i := 8) (v := ?_) rfl (by kernel_rfl) (by kernel_rfl) (by kernel_rfl) (fun _ _ _ h => h) (Or.inl ⟨by rfl, ?_⟩) hHeld ?_
    rotate_left
    · intro w2 hSw
      go_simp
      all_goals rfl
    try simp only [Act.put, List.getElem_toArray, List.getElem_cons_zero, List.getElem_cons_succ, List.setIfInBounds_toArray, List.set_cons_zero, List.set_cons_succ]
    refine wpAnyH_take (i := 9) (v := ?_) rfl (by kernel_rfl) (by kernel_rfl) (by kernel_rfl) (fun _ _ _ h => h) (Or.inl ⟨by rfl, ?_⟩) hHeld ?_
    rotate_left
    · intro w2 hSw
      go_simp
      all_goals rfl
    try simp only [Act.put, List.getElem_toArray, List.getElem_cons_zero, List.getElem_cons_succ, List.setIfInBounds_toArray, List.set_cons_zero, List.set_cons_succ]
    refine wpAnyH_done (by kernel_rfl) ?_ _
    have pF := mA.same gB hbr
    have kF : Kept W wB := (k9.new gA fun i hi => by rw [hi]; exact hb).new gB fun i hi => by rw [hi]; exact hr
    clear mA gA gB p9 r9 k9
    generalize cntT (doB C op rs1 rs2 imm csr) T = c at *
    generalize wipeT (doB C op rs1 rs2 imm csr) T = T1 at *
    have hlen : (allT T1).length ≤ 16 := all_len T1 16 0
    go_wp2_with fail
    refine (tall_any (hT.kept kF).tl pF).mono ?_
    rintro e wC ⟨v1, rfl, o1, kC⟩
    obtain ⟨q1, c1, rfl⟩ := o1.form
    have rC := mB.kept kC
    have kG := kF.then kC
    clear pF mB kF kC
    go_wp2_with fail
    refine (rtall_any rC).mono ?_
    rintro e wD ⟨v2, rfl, o2, kD⟩
    obtain ⟨q2, c2, rfl⟩ := o2.form
    have o3 := o1.kept kD
    have kH := kG.then kD
    clear o1 rC kD kG
    go_wp2_with fail
    refine (same14_any (by omega) o3.row o2.row).mono ?_
    rintro e wE ⟨rfl, kE⟩
    have kI := kH.then kE
    clear o2 o3 kH kE
    go_wp2_with fail
    go_ret
    exact ⟨rfl, kI⟩
set_option maxRecDepth 10000 in
theorem ftells_any (v : Value) (S : StM) (op rd rs1 rs2 imm csr page asid which : Int) (hS : S.Ok) (w0 : 0 ≤ which) (w1 : which ≤ 255) {W : World} (h : RowN W v) (hT : Tab14 W) :
    Calls Tryd.prog 3 #[v, .agg (rowOf 65 (stF S)), .agg (inA op rd rs1 rs2 imm csr), .int .i64 page, .int .i64 asid, .int .u8 which] W fun e w' => e = .returned (.bool true) ∧ Kept W w' := by
  obtain ⟨q, n, cp, L, rfl, hP⟩ := h
  by_cases hn : n ≤ 40
  · exact ftells_short q n cp L hn hS op rd rs1 rs2 imm csr page asid which w0 w1 hP hT
  · have l1 : (40 : Int) < (n : Int) := by omega
    have k0 : Kept W ((W.alloc (.cells (rowOf 65 (stF S)) 27)).alloc (.cells (inA op rd rs1 rs2 imm csr) 29)) := ((Only.refl _ W).alloc _).alloc _
    clear hP hn
    go_enter Tryd.func3, Tryd.ntmps3
    go_wp2_with fail
    refine (known14_any (hT.kept k0) (Only.refl _ _)).mono ?_
    rintro e w1 ⟨rfl, k1⟩
    go_wp2
    go_ret
    exact ⟨rfl, k0.then k1⟩
end Go.Proofs.YtpfblbleendpiaaDoor
