/-
  What statement FenceGuests asks: a guest's fences let nothing of the host's and of other guests' go. Walked over the contracts.
-/
import Derived.Test.YtpfblbleendpiaaFParts14
namespace Go.Proofs.Ytpfblbleendpiaa
open Go.RowKit
section
variable {S : StM} {page asid : Int} {e : EntM}
theorem gP_yes (h : sfeB S true page asid e = true) : e.v = true ∧ (e.vmid == vmI S) = true := by
  unfold sfeB at h
  simp only [Bool.and_eq_true] at h
  obtain ⟨_, h2, _, _, h5⟩ := h
  exact ⟨by simpa using h2, by simpa using h5⟩
theorem gP_no (h : sfeB S true page asid e = false) (hv : e.valid = true) (h1 : e.v = true) (h2 : (e.vmid == vmI S) = true) :
    ((page == -1) = false ∧ (e.page == page) = false) ∨ ((page == -1) = true ∧ (asid == -1) = false ∧ (e.asid == asid) = false) ∨ ((page == -1) = false ∧ (e.page == page) = true ∧ (asid == -1) = false ∧ (e.asid == asid) = false) := by
  unfold sfeB namB at h
  rw [hv, h1, h2] at h
  cases a : (page == -1) <;> cases b : (e.page == page) <;> cases c : (asid == -1) <;> cases d : (e.asid == asid) <;> simp_all
end
set_option maxRecDepth 100000 in
set_option maxHeartbeats 16000000 in
theorem fguests_short (q : Option Addr) (n cp : Nat) (L : Nat → EntM) (hn : n ≤ 40) {S : StM} (hS : S.Ok) (page asid : Int) {W : World} (hP : RowEn W q n L) (hT : Tab14 W) :
    Calls Try.prog 4 #[.slice q n cp, .agg (rowOf 65 (stF S)), .int .i64 page, .int .i64 asid] W fun e w' => e = .returned (.bool true) ∧ Kept W w' := by
  have l1 : ¬ (40 : Int) < (n : Int) := by omega
  have h0 := st_new W S
  have k0 := (Only.refl (fun _ => False) W).alloc (.cells (rowOf 65 (stF S)) 27)
  have hC0 := cleanM_ok hS
  go_enter Try.func4, Try.ntmps4
  go_upto_region 1 with fail
  generalize W.alloc (.cells (rowOf 65 (stF S)) 27) = w0 at *
  generalize W.heap.size = bb at h0
  go_wp2_with fail
  refine (known14_any (hT.kept k0) (Only.refl _ w0)).mono ?_
  rintro e w1 ⟨rfl, k1⟩
  have h1 := st_kept14 h0 k1
  have k2 : Kept W w1 := k0.then k1
  clear h0 k0 k1
  go_upto_region 6 with (first | (refine wpList_load_is (by rfl) 27 _ rfl rfl h1 _ Try.underlying27 rfl st_size ?_) | (go_at_call 6; refine (rclean_any S _).mono ?_; rintro e w2 ⟨rfl, k3⟩) | refine wpList_alloc_is rfl 27 rfl (rowOf 65 zF) st_zero ?_ | (refine wpList_store_is rfl 27 _ _ rfl rfl rfl (row_alloc _ 65 zF _) st_size (fun i _ => stF_one _ i) ?_; rw [World.setRow_alloc_new]))
  generalize cleanM S = C0 at *
  have h2 := st_new w2 C0
  have k4 : Kept W (w2.alloc (.cells (rowOf 65 (stF C0)) 27)) := (k2.then k3).alloc _
  have hsb : W.heap.size ≤ w2.heap.size := (k2.then k3).size
  try simp only [Act.put]
  generalize w2.alloc (.cells (rowOf 65 (stF C0)) 27) = w3 at h2 k4 ⊢
  generalize w2.heap.size = sb at h2 hsb ⊢
  clear k2 k3 h1
  have cv := st_v h2
  have fv := h2.frozen 34
  have h3 : StAt (w3.setCell ⟨sb, 34, none⟩ (.bool true)) sb (setV C0 true) := (World.rowIs.set h2 34 (.bool true)).congr fun j _ => by rw [stF_v]
  have fl := h3.frozen 33
  have cl := st_lvl h3
  have h4 : StAt ((w3.setCell ⟨sb, 34, none⟩ (.bool true)).setCell ⟨sb, 33, none⟩ (.int .i64 1)) sb (setLvl (setV C0 true) 1) := (World.rowIs.set h3 33 (.int .i64 1)).congr fun j _ => by rw [stF_lvl]
  have k5 : Kept W ((w3.setCell ⟨sb, 34, none⟩ (.bool true)).setCell ⟨sb, 33, none⟩ (.int .i64 1)) := k4.new (((Only.refl (fun i => i = sb) w3).setCell (x := ⟨sb, 34, none⟩) rfl _).setCell (x := ⟨sb, 33, none⟩) rfl _) fun i hi => by rw [hi]; exact hsb
  go_upto_region 7 with fail
  have hC : (setLvl (setV C0 true) 1).Ok := ⟨hC0.X, hC0.pc, (show -9223372036854775808 ≤ (1 : Int) ∧ (1 : Int) ≤ 9223372036854775807 by omega), hC0.C, hC0.done⟩
  have hCv : (setLvl (setV C0 true) 1).v = true := rfl
  clear cv fv fl cl h2 h3 k4 hC0
  generalize (w3.setCell ⟨sb, 34, none⟩ (.bool true)).setCell ⟨sb, 33, none⟩ (.int .i64 1) = w4 at h4 k5 ⊢
  generalize setLvl (setV C0 true) 1 = C at h4 hC hCv ⊢
  go_wp2_with fail
  refine (filled_any q n cp L hn (hP.kept k5) (hT.kept k5)).mono ?_
  rintro e w5 ⟨b, rb, rfl, f5⟩
  have ls := World.rowIs.lt h4
  have hbs : ¬ b = sb := by have := f5.hb; omega
  have s5 : St14 W w5 b (fillN L n) := ⟨f5.p, inv_fillN L n, k5.then f5.k, Nat.le_trans k5.size f5.hb⟩
  have h5 := st_kept14 h4 f5.k
  clear f5 h4 k5 ls hP hsb
  generalize fillN L n = T at s5
  go_wp2_with fail
  refine (tall_any (hT.kept s5.k).tl s5.m).mono ?_
  rintro e w6 ⟨v1, rfl, ow, k6⟩
  have s6 := s5.kept k6
  have h6 := st_kept14 h5 k6
  have lb : b < w5.heap.size := s5.m.lt
  clear s5 h5 k6
  generalize w5.heap.size = base at *
  obtain ⟨q1, c1, rfl⟩ := ow.form
  go_wp2_with (first | (refine wpList_load_is (by rfl) 27 _ rfl rfl h6 _ Try.underlying27 rfl st_size ?_))
  refine (fsfence_any (hT.kept s6.k) s6.m s6.g hC page asid).mono ?_
  rintro e w7 ⟨rfl, m7, g7⟩
  rw [hCv] at m7
  have s7 := s6.turn g7 m7 (inv_wipe s6.g _ 16)
  have h7 := st_past14 h6 g7 (fun x => hbs x.symm)
  have ow7 := ow.past g7 fun i hi => by omega
  clear s6 h6 m7 g7 ow
  go_wp2_with fail
  refine (tall_any (hT.kept s7.k).tl s7.m).mono ?_
  rintro e wE ⟨v2, rfl, on, k8⟩
  have kE := s7.k.then k8
  have ow8 := ow7.kept k8
  have h8 := (st_kept14 h7 k8).c (i := 21) (by omega)
  clear s7 h7 k8 ow7
  obtain ⟨q2, c2, rfl⟩ := on.form
  generalize w7.heap.size = base2 at *
  have hlen : (allT T).length ≤ 16 := all_len T 16 0
  have hva : ∀ e ∈ allT T, e.valid = true := fun e he => by
    obtain ⟨j, _, _, h3, rfl⟩ := (mem_all 16 0 _).1 he
    exact h3
  rw [allT_wipe] at on ⊢
  generalize hA : allT T = A at *
  generalize hQ : (fun e => !sfeB C true page asid e) = Q at *
  have hq : ∀ e, Q e = !sfeB C true page asid e := fun e => by rw [← hQ]
  have hNl : (A.filter Q).length ≤ A.length := List.length_filter_le _ _
  have ea : bits .and .u64 (C.C 21 / 65536) 255 = vmI C := u_low (C.C 21 / 65536) 8 (by have := (hC.C 21 (by omega)).1; omega) 255 rfl
  obtain ⟨v0, v1⟩ := vm_bd C
  obtain ⟨u0, u1⟩ := hC.C 21 (by omega)
  have hwv : IntKind.i64.wrap (vmI C) = vmI C := by rw [IntKind.wrap_i64]; omega
  generalize hN : A.filter Q = N at *
  clear hQ hA hT
  go_wp2_with fail
  clear h8 ea u0 u1
  go_loopw [14, 16] (fun kk ii wr => ∃ i : Nat, i ≤ A.length ∧ kk = .int .i64 (kN Q A i : Nat) ∧ ii = .int .i64 (i : Int) ∧ Kept wE wr) (fun kk ii _ => A.length - (intOf ii).toNat)
  case atStart => exact ⟨0, by omega, by rw [kN_0]; rfl, rfl, Only.refl _ _⟩
  case round =>
    obtain ⟨i, hi, rfl, rfl, hk⟩ := hrel
    by_cases hlt : i < A.length
    · have hlt' : (i : Int) < (A.length : Int) := by omega
      have hi0 : (0 : Int) ≤ (i : Int) := by omega
      have hi9 : (i : Int) < 16 := by omega
      have hkeep : i < A.length ∧ A.length ≤ 16 := ⟨hlt, hlen⟩
      obtain ⟨g, cap, hqq, hg, hr0⟩ := ow8.range i hlt
      obtain ⟨rfl, rfl⟩ : q1 = some ⟨g, 0, none⟩ ∧ c1 = cap := by simpa using hqq
      have hr := range_kept9 hr0 hk
      have hev := hva A[i] (List.getElem_mem hlt)
      clear hqq hr0 hva hg
      cases hQe : Q A[i]
      · have hP9 : sfeB C true page asid A[i] = true := by have := hq A[i]; rw [hQe] at this; simpa using this.symm
        obtain ⟨hx, hy⟩ := gP_yes hP9
        have hst := kN_no hlt hQe
        by_cases hroom : kN Q A i < N.length
        · obtain ⟨g2, cap2, hqq2, hg2, hn0⟩ := on.range (kN Q A i) hroom
          obtain ⟨rfl, rfl⟩ : q2 = some ⟨g2, 0, none⟩ ∧ c2 = cap2 := by simpa using hqq2
          have hn := range_kept9 hn0 hk
          have heq : eqE N[kN Q A i] A[i] = false := eq_not (Q := Q) (List.mem_filter.1 (show N[kN Q A i] ∈ A.filter Q by rw [hN]; exact List.getElem_mem hroom)).2 hQe
          generalize N[kN Q A i] = f at hn heq
          have hk0 : (0 : Int) ≤ ((kN Q A i : Nat) : Int) := by omega
          have hk1 : ((kN Q A i : Nat) : Int) < (N.length : Int) := by omega
          clear hqq2 hn0 hg2 hroom hP9 hQe hq on ow8 hN
          generalize A[i] = e at *
          generalize hkk : kN Q A i = k at *
          have c1 : _ = some (Value.bool true) := (hr 1 _ rfl).trans (congrArg (fun x => some (Value.bool x)) hx)
          have c4 : _ = some (Value.int .i64 e.vmid) := hr 4 _ rfl
          go_upto_region 17 with fail
          have kd : Kept wr wr.drew := (Only.refl _ wr).drew
          have r9 := range_kept9 hr kd
          have n9 := range_kept9 hn kd
          have kE9 : Kept wE wr.drew := hk.then kd
          clear hr hk kd hn
          refine wp_region_held_drew (S := fun w2 => Kept wr.drew w2) (by kernel_rfl) (Only.refl _ _) (fun hHeld => ?_)
          generalize wr.drew = wd at *
          refine wpAnyH_take (i := 0) (v := ?_) rfl (by kernel_rfl) (by kernel_rfl) (by kernel_rfl) (fun _ _ _ h => h) (Or.inl ⟨by rfl, ?_⟩) hHeld ?_
          rotate_left
          · intro w2 hSw
            go_simp
            all_goals rfl
          try simp only [Act.put, List.getElem_toArray, List.getElem_cons_zero, List.setIfInBounds_toArray, List.set_cons_zero, List.set_cons_succ]
          refine wpAnyH_take (i := 1) (v := ?_) rfl (by kernel_rfl) (by kernel_rfl) (by kernel_rfl) (fun _ _ _ h => h) (Or.inl ⟨by rfl, ?_⟩) hHeld ?_
          rotate_left
          · intro w2 hSw
            go_simp
            all_goals rfl
          try simp only [Act.put, List.getElem_toArray, List.getElem_cons_zero, List.getElem_cons_succ, List.setIfInBounds_toArray, List.set_cons_zero, List.set_cons_succ]
          refine wpAnyH_take (i := 2) (v := ?_) rfl (by kernel_rfl) (by kernel_rfl) (by kernel_rfl) (fun _ _ _ h => h) (Or.inl ⟨by rfl, ?_⟩) hHeld ?_
          rotate_left
          · intro w2 hSw
            go_simp
            all_goals rfl
          try simp only [Act.put, List.getElem_toArray, List.getElem_cons_zero, List.getElem_cons_succ, List.setIfInBounds_toArray, List.set_cons_zero, List.set_cons_succ]
          refine wpAnyH_take (i := 3) (v := ?_) rfl (by kernel_rfl) (by kernel_rfl) (by kernel_rfl) (fun _ _ _ h => h) (Or.inl ⟨by rfl, ?_⟩) hHeld ?_
          rotate_left
          · intro w2 hSw
            go_simp
            all_goals rfl
          try simp only [Act.put, List.getElem_toArray, List.getElem_cons_zero, List.getElem_cons_succ, List.setIfInBounds_toArray, List.set_cons_zero, List.set_cons_succ]
          refine wpAnyH_take (i := 4) (v := ?_) rfl (by kernel_rfl) (by kernel_rfl) (by kernel_rfl) (fun _ _ _ h => h) (Or.inl ⟨by rfl, ?_⟩) hHeld ?_
          rotate_left
          · intro w2 hSw
            go_simp
            all_goals rfl
          try simp only [Act.put, List.getElem_toArray, List.getElem_cons_zero, List.getElem_cons_succ, List.setIfInBounds_toArray, List.set_cons_zero, List.set_cons_succ]
          refine wpAnyH_take (i := 5) (v := ?_) rfl (by kernel_rfl) (by kernel_rfl) (by kernel_rfl) (fun _ _ _ h => h) (Or.inl ⟨by rfl, ?_⟩) hHeld ?_
          rotate_left
          · intro w2 hSw
            go_simp
            all_goals rfl
          try simp only [Act.put, List.getElem_toArray, List.getElem_cons_zero, List.getElem_cons_succ, List.setIfInBounds_toArray, List.set_cons_zero, List.set_cons_succ]
          refine wpAnyH_take (i := 6) (v := ?_) rfl (by kernel_rfl) (by kernel_rfl) (by kernel_rfl) (fun _ _ _ h => h) (Or.inl ⟨by rfl, ?_⟩) hHeld ?_
          rotate_left
          · intro w2 hSw
            go_simp
            all_goals rfl
          try simp only [Act.put, List.getElem_toArray, List.getElem_cons_zero, List.getElem_cons_succ, List.setIfInBounds_toArray, List.set_cons_zero, List.set_cons_succ]
          refine wpAnyH_take (i := 7) (v := ?_) rfl (by kernel_rfl) (by kernel_rfl) (by kernel_rfl) (fun _ _ _ h => h) (Or.inl ⟨by rfl, ?_⟩) hHeld ?_
          rotate_left
          · intro w2 hSw
            go_simp
            all_goals rfl
          try simp only [Act.put, List.getElem_toArray, List.getElem_cons_zero, List.getElem_cons_succ, List.setIfInBounds_toArray, List.set_cons_zero, List.set_cons_succ]
          refine wpAnyH_take (i := 8) (v := .agg (entA f).toArray) rfl (by kernel_rfl) (by kernel_rfl) (by kernel_rfl) (fun _ _ _ h => h) (Or.inl ⟨by rfl, ?_⟩) hHeld ?_
          · intro w2 hSw
            exact exec_load rfl rfl (run_loadVar_mid _ g2 (k * 9) _ (entA f) _ (range_kept9 n9 hSw) Try.underlying37 rfl (ent_size' _))
          try simp only [Act.put, List.getElem_toArray, List.getElem_cons_zero, List.getElem_cons_succ, List.setIfInBounds_toArray, List.set_cons_zero, List.set_cons_succ]
          refine wpAnyH_take (i := 9) (v := ?_) rfl (by kernel_rfl) (by kernel_rfl) (by kernel_rfl) (fun _ _ _ h => h) (Or.inl ⟨by rfl, ?_⟩) hHeld ?_
          rotate_left
          · intro w2 hSw
            go_simp
            all_goals rfl
          try simp only [Act.put, List.getElem_toArray, List.getElem_cons_zero, List.getElem_cons_succ, List.setIfInBounds_toArray, List.set_cons_zero, List.set_cons_succ]
          refine wpAnyH_take (i := 10) (v := ?_) rfl (by kernel_rfl) (by kernel_rfl) (by kernel_rfl) (fun _ _ _ h => h) (Or.inl ⟨by rfl, ?_⟩) hHeld ?_
          rotate_left
          · intro w2 hSw
            go_simp
            all_goals rfl
          try simp only [Act.put, List.getElem_toArray, List.getElem_cons_zero, List.getElem_cons_succ, List.setIfInBounds_toArray, List.set_cons_zero, List.set_cons_succ]
          refine wpAnyH_take (i := 11) (v := ?_) rfl (by kernel_rfl) (by kernel_rfl) (by kernel_rfl) (fun _ _ _ h => h) (Or.inl ⟨by rfl, ?_⟩) hHeld ?_
          rotate_left
          · intro w2 hSw
            go_simp
            all_goals rfl
          try simp only [Act.put, List.getElem_toArray, List.getElem_cons_zero, List.getElem_cons_succ, List.setIfInBounds_toArray, List.set_cons_zero, List.set_cons_succ]
          refine wpAnyH_take (i := 12) (v := .agg (entA e).toArray) rfl (by kernel_rfl) (by kernel_rfl) (by kernel_rfl) (fun _ _ _ h => h) (Or.inl ⟨by rfl, ?_⟩) hHeld ?_
          · intro w2 hSw
            exact exec_load rfl rfl (run_loadVar_mid _ g (i * 9) _ (entA e) _ (range_kept9 r9 hSw) Try.underlying37 rfl (ent_size' _))
          try simp only [Act.put, List.getElem_toArray, List.getElem_cons_zero, List.getElem_cons_succ, List.setIfInBounds_toArray, List.set_cons_zero, List.set_cons_succ]
          refine wpAnyH_take (i := 13) (v := .bool false) rfl (by kernel_rfl) (by kernel_rfl) (by kernel_rfl) (fun _ _ _ h => h) (Or.inl ⟨by rfl, ?_⟩) hHeld ?_
          · intro w2 hSw
            exact (exec_eqE rfl rfl rfl).trans (by rw [heq])
          try simp only [Act.put, List.getElem_toArray, List.getElem_cons_zero, List.getElem_cons_succ, List.setIfInBounds_toArray, List.set_cons_zero, List.set_cons_succ]
          refine wpAnyH_take (i := 14) (v := ?_) rfl (by kernel_rfl) (by kernel_rfl) (by kernel_rfl) (fun _ _ _ h => h) (Or.inl ⟨by rfl, ?_⟩) hHeld ?_
          rotate_left
          · intro w2 hSw
            go_simp
            all_goals rfl
          try simp only [Act.put, List.getElem_toArray, List.getElem_cons_zero, List.getElem_cons_succ, List.setIfInBounds_toArray, List.set_cons_zero, List.set_cons_succ]
          refine wpAnyH_take (i := 15) (v := ?_) rfl (by kernel_rfl) (by kernel_rfl) (by kernel_rfl) (fun _ _ _ h => h) (Or.inl ⟨by rfl, ?_⟩) hHeld ?_
          rotate_left
          · intro w2 hSw
            go_simp
            all_goals rfl
          try simp only [Act.put, List.getElem_toArray, List.getElem_cons_zero, List.getElem_cons_succ, List.setIfInBounds_toArray, List.set_cons_zero, List.set_cons_succ]
          refine wpAnyH_done (by kernel_rfl) ?_ _
          have c2 : _ = some (Value.int .i64 e.page) := hHeld.cell (r9 2 _ rfl)
          have c3 : _ = some (Value.int .i64 e.asid) := hHeld.cell (r9 3 _ rfl)
          go_wp2_with fail
          exact ⟨⟨i + 1, by omega, by rw [hst], by go_num, kE9⟩, by simp [intOf]; omega⟩
        · have hk1 : ¬ ((kN Q A i : Nat) : Int) < (N.length : Int) := by omega
          have hk0 : (0 : Int) ≤ ((kN Q A i : Nat) : Int) := by omega
          clear hroom hP9 hQe hq on ow8 hN
          generalize A[i] = e at *
          generalize hkk : kN Q A i = k at *
          have c1 : _ = some (Value.bool true) := (hr 1 _ rfl).trans (congrArg (fun x => some (Value.bool x)) hx)
          have c4 : _ = some (Value.int .i64 e.vmid) := hr 4 _ rfl
          go_upto_region 17 with fail
          have kd : Kept wr wr.drew := (Only.refl _ wr).drew
          have r9 := range_kept9 hr kd

          have kE9 : Kept wE wr.drew := hk.then kd
          clear hr hk kd
          refine wp_region_held_drew (S := fun w2 => Kept wr.drew w2) (by kernel_rfl) (Only.refl _ _) (fun hHeld => ?_)
          generalize wr.drew = wd at *
          refine wpAnyH_take (i := 0) (v := ?_) rfl (by kernel_rfl) (by kernel_rfl) (by kernel_rfl) (fun _ _ _ h => h) (Or.inl ⟨by rfl, ?_⟩) hHeld ?_
          rotate_left
          · intro w2 hSw
            go_simp
            all_goals rfl
          try simp only [Act.put, List.getElem_toArray, List.getElem_cons_zero, List.setIfInBounds_toArray, List.set_cons_zero, List.set_cons_succ]
          refine wpAnyH_take (i := 1) (v := ?_) rfl (by kernel_rfl) (by kernel_rfl) (by kernel_rfl) (fun _ _ _ h => h) (Or.inl ⟨by rfl, ?_⟩) hHeld ?_
          rotate_left
          · intro w2 hSw
            go_simp
            all_goals rfl
          try simp only [Act.put, List.getElem_toArray, List.getElem_cons_zero, List.getElem_cons_succ, List.setIfInBounds_toArray, List.set_cons_zero, List.set_cons_succ]
          refine wpAnyH_take (i := 2) (v := ?_) rfl (by kernel_rfl) (by kernel_rfl) (by kernel_rfl) (fun _ _ _ h => h) (Or.inl ⟨by rfl, ?_⟩) hHeld ?_
          rotate_left
          · intro w2 hSw
            go_simp
            all_goals rfl
          try simp only [Act.put, List.getElem_toArray, List.getElem_cons_zero, List.getElem_cons_succ, List.setIfInBounds_toArray, List.set_cons_zero, List.set_cons_succ]
          refine wpAnyH_take (i := 3) (v := ?_) rfl (by kernel_rfl) (by kernel_rfl) (by kernel_rfl) (fun _ _ _ h => h) (Or.inl ⟨by rfl, ?_⟩) hHeld ?_
          rotate_left
          · intro w2 hSw
            go_simp
            all_goals rfl
          try simp only [Act.put, List.getElem_toArray, List.getElem_cons_zero, List.getElem_cons_succ, List.setIfInBounds_toArray, List.set_cons_zero, List.set_cons_succ]
          refine wpAnyH_take (i := 4) (v := ?_) rfl (by kernel_rfl) (by kernel_rfl) (by kernel_rfl) (fun _ _ _ h => h) (Or.inl ⟨by rfl, ?_⟩) hHeld ?_
          rotate_left
          · intro w2 hSw
            go_simp
            all_goals rfl
          try simp only [Act.put, List.getElem_toArray, List.getElem_cons_zero, List.getElem_cons_succ, List.setIfInBounds_toArray, List.set_cons_zero, List.set_cons_succ]
          refine wpAnyH_take (i := 5) rfl (by kernel_rfl) (by kernel_rfl) (by kernel_rfl) (fun _ _ _ h => h) (Or.inr ⟨by rfl, rfl⟩) hHeld ?_
          try simp only [Act.put, List.getElem_toArray, List.getElem_cons_zero, List.getElem_cons_succ, List.setIfInBounds_toArray, List.set_cons_zero, List.set_cons_succ]
          refine wpAnyH_take (i := 6) rfl (by kernel_rfl) (by kernel_rfl) (by kernel_rfl) (fun _ _ _ h => h) (Or.inr ⟨by rfl, rfl⟩) hHeld ?_
          try simp only [Act.put, List.getElem_toArray, List.getElem_cons_zero, List.getElem_cons_succ, List.setIfInBounds_toArray, List.set_cons_zero, List.set_cons_succ]
          refine wpAnyH_take (i := 7) rfl (by kernel_rfl) (by kernel_rfl) (by kernel_rfl) (fun _ _ _ h => h) (Or.inr ⟨by rfl, rfl⟩) hHeld ?_
          try simp only [Act.put, List.getElem_toArray, List.getElem_cons_zero, List.getElem_cons_succ, List.setIfInBounds_toArray, List.set_cons_zero, List.set_cons_succ]
          refine wpAnyH_take (i := 8) rfl (by kernel_rfl) (by kernel_rfl) (by kernel_rfl) (fun _ _ _ h => h) (Or.inr ⟨by rfl, rfl⟩) hHeld ?_
          try simp only [Act.put, List.getElem_toArray, List.getElem_cons_zero, List.getElem_cons_succ, List.setIfInBounds_toArray, List.set_cons_zero, List.set_cons_succ]
          refine wpAnyH_take (i := 9) rfl (by kernel_rfl) (by kernel_rfl) (by kernel_rfl) (fun _ _ _ h => h) (Or.inr ⟨by rfl, rfl⟩) hHeld ?_
          try simp only [Act.put, List.getElem_toArray, List.getElem_cons_zero, List.getElem_cons_succ, List.setIfInBounds_toArray, List.set_cons_zero, List.set_cons_succ]
          refine wpAnyH_take (i := 10) rfl (by kernel_rfl) (by kernel_rfl) (by kernel_rfl) (fun _ _ _ h => h) (Or.inr ⟨by rfl, rfl⟩) hHeld ?_
          try simp only [Act.put, List.getElem_toArray, List.getElem_cons_zero, List.getElem_cons_succ, List.setIfInBounds_toArray, List.set_cons_zero, List.set_cons_succ]
          refine wpAnyH_take (i := 11) rfl (by kernel_rfl) (by kernel_rfl) (by kernel_rfl) (fun _ _ _ h => h) (Or.inr ⟨by rfl, rfl⟩) hHeld ?_
          try simp only [Act.put, List.getElem_toArray, List.getElem_cons_zero, List.getElem_cons_succ, List.setIfInBounds_toArray, List.set_cons_zero, List.set_cons_succ]
          refine wpAnyH_take (i := 12) rfl (by kernel_rfl) (by kernel_rfl) (by kernel_rfl) (fun _ _ _ h => h) (Or.inr ⟨by rfl, rfl⟩) hHeld ?_
          try simp only [Act.put, List.getElem_toArray, List.getElem_cons_zero, List.getElem_cons_succ, List.setIfInBounds_toArray, List.set_cons_zero, List.set_cons_succ]
          refine wpAnyH_take (i := 13) rfl (by kernel_rfl) (by kernel_rfl) (by kernel_rfl) (fun _ _ _ h => h) (Or.inr ⟨by rfl, rfl⟩) hHeld ?_
          try simp only [Act.put, List.getElem_toArray, List.getElem_cons_zero, List.getElem_cons_succ, List.setIfInBounds_toArray, List.set_cons_zero, List.set_cons_succ]
          refine wpAnyH_take (i := 14) (v := ?_) rfl (by kernel_rfl) (by kernel_rfl) (by kernel_rfl) (fun _ _ _ h => h) (Or.inl ⟨by rfl, ?_⟩) hHeld ?_
          rotate_left
          · intro w2 hSw
            go_simp
            all_goals rfl
          try simp only [Act.put, List.getElem_toArray, List.getElem_cons_zero, List.getElem_cons_succ, List.setIfInBounds_toArray, List.set_cons_zero, List.set_cons_succ]
          refine wpAnyH_take (i := 15) (v := ?_) rfl (by kernel_rfl) (by kernel_rfl) (by kernel_rfl) (fun _ _ _ h => h) (Or.inl ⟨by rfl, ?_⟩) hHeld ?_
          rotate_left
          · intro w2 hSw
            go_simp
            all_goals rfl
          try simp only [Act.put, List.getElem_toArray, List.getElem_cons_zero, List.getElem_cons_succ, List.setIfInBounds_toArray, List.set_cons_zero, List.set_cons_succ]
          refine wpAnyH_done (by kernel_rfl) ?_ _
          have c2 : _ = some (Value.int .i64 e.page) := hHeld.cell (r9 2 _ rfl)
          have c3 : _ = some (Value.int .i64 e.asid) := hHeld.cell (r9 3 _ rfl)
          go_wp2_with fail
          exact ⟨⟨i + 1, by omega, by rw [hst], by go_num, kE9⟩, by simp [intOf]; omega⟩
      · subst hN
        obtain ⟨hkN, hat⟩ := kN_at A i hlt hQe
        have hst := kN_yes hlt hQe
        have hP9 : sfeB C true page asid A[i] = false := by have := hq A[i]; rw [hQe] at this; simpa using this.symm
        obtain ⟨g2, cap2, hqq2, hg2, hn0⟩ := on.range (kN Q A i) hkN
        obtain ⟨rfl, rfl⟩ : q2 = some ⟨g2, 0, none⟩ ∧ c2 = cap2 := by simpa using hqq2
        have hn := range_kept9 hn0 hk
        rw [hat] at hn
        have hk0 : (0 : Int) ≤ ((kN Q A i : Nat) : Int) := by omega
        have hk1 : ((kN Q A i : Nat) : Int) < ((A.filter Q).length : Int) := by omega
        have hk2 : ((kN Q A i : Nat) : Int) < 16 := by omega
        clear hqq2 hn0 hg2 hat hkN hQe hq on ow8 hNl
        generalize A[i] = e at *
        generalize hkk : kN Q A i = k at *
        generalize (A.filter Q).length = nl at *
        have heq := eqE_self e
        cases hx : e.v
        · have c1 : _ = some (Value.bool false) := (hr 1 _ rfl).trans (congrArg (fun x => some (Value.bool x)) hx)
          clear hP9
          go_upto_region 17 with fail
          have kd : Kept wr wr.drew := (Only.refl _ wr).drew
          have r9 := range_kept9 hr kd
          have n9 := range_kept9 hn kd
          have kE9 : Kept wE wr.drew := hk.then kd
          clear hr hk kd hn
          refine wp_region_held_drew (S := fun w2 => Kept wr.drew w2) (by kernel_rfl) (Only.refl _ _) (fun hHeld => ?_)
          generalize wr.drew = wd at *
          refine wpAnyH_take (i := 0) (v := ?_) rfl (by kernel_rfl) (by kernel_rfl) (by kernel_rfl) (fun _ _ _ h => h) (Or.inl ⟨by rfl, ?_⟩) hHeld ?_
          rotate_left
          · intro w2 hSw
            go_simp
            all_goals rfl
          try simp only [Act.put, List.getElem_toArray, List.getElem_cons_zero, List.setIfInBounds_toArray, List.set_cons_zero, List.set_cons_succ]
          refine wpAnyH_take (i := 1) (v := ?_) rfl (by kernel_rfl) (by kernel_rfl) (by kernel_rfl) (fun _ _ _ h => h) (Or.inl ⟨by rfl, ?_⟩) hHeld ?_
          rotate_left
          · intro w2 hSw
            go_simp
            all_goals rfl
          try simp only [Act.put, List.getElem_toArray, List.getElem_cons_zero, List.getElem_cons_succ, List.setIfInBounds_toArray, List.set_cons_zero, List.set_cons_succ]
          refine wpAnyH_take (i := 2) (v := ?_) rfl (by kernel_rfl) (by kernel_rfl) (by kernel_rfl) (fun _ _ _ h => h) (Or.inl ⟨by rfl, ?_⟩) hHeld ?_
          rotate_left
          · intro w2 hSw
            go_simp
            all_goals rfl
          try simp only [Act.put, List.getElem_toArray, List.getElem_cons_zero, List.getElem_cons_succ, List.setIfInBounds_toArray, List.set_cons_zero, List.set_cons_succ]
          refine wpAnyH_take (i := 3) (v := ?_) rfl (by kernel_rfl) (by kernel_rfl) (by kernel_rfl) (fun _ _ _ h => h) (Or.inl ⟨by rfl, ?_⟩) hHeld ?_
          rotate_left
          · intro w2 hSw
            go_simp
            all_goals rfl
          try simp only [Act.put, List.getElem_toArray, List.getElem_cons_zero, List.getElem_cons_succ, List.setIfInBounds_toArray, List.set_cons_zero, List.set_cons_succ]
          refine wpAnyH_take (i := 4) (v := ?_) rfl (by kernel_rfl) (by kernel_rfl) (by kernel_rfl) (fun _ _ _ h => h) (Or.inl ⟨by rfl, ?_⟩) hHeld ?_
          rotate_left
          · intro w2 hSw
            go_simp
            all_goals rfl
          try simp only [Act.put, List.getElem_toArray, List.getElem_cons_zero, List.getElem_cons_succ, List.setIfInBounds_toArray, List.set_cons_zero, List.set_cons_succ]
          refine wpAnyH_take (i := 5) (v := ?_) rfl (by kernel_rfl) (by kernel_rfl) (by kernel_rfl) (fun _ _ _ h => h) (Or.inl ⟨by rfl, ?_⟩) hHeld ?_
          rotate_left
          · intro w2 hSw
            go_simp
            all_goals rfl
          try simp only [Act.put, List.getElem_toArray, List.getElem_cons_zero, List.getElem_cons_succ, List.setIfInBounds_toArray, List.set_cons_zero, List.set_cons_succ]
          refine wpAnyH_take (i := 6) (v := ?_) rfl (by kernel_rfl) (by kernel_rfl) (by kernel_rfl) (fun _ _ _ h => h) (Or.inl ⟨by rfl, ?_⟩) hHeld ?_
          rotate_left
          · intro w2 hSw
            go_simp
            all_goals rfl
          try simp only [Act.put, List.getElem_toArray, List.getElem_cons_zero, List.getElem_cons_succ, List.setIfInBounds_toArray, List.set_cons_zero, List.set_cons_succ]
          refine wpAnyH_take (i := 7) (v := ?_) rfl (by kernel_rfl) (by kernel_rfl) (by kernel_rfl) (fun _ _ _ h => h) (Or.inl ⟨by rfl, ?_⟩) hHeld ?_
          rotate_left
          · intro w2 hSw
            go_simp
            all_goals rfl
          try simp only [Act.put, List.getElem_toArray, List.getElem_cons_zero, List.getElem_cons_succ, List.setIfInBounds_toArray, List.set_cons_zero, List.set_cons_succ]
          refine wpAnyH_take (i := 8) (v := .agg (entA e).toArray) rfl (by kernel_rfl) (by kernel_rfl) (by kernel_rfl) (fun _ _ _ h => h) (Or.inl ⟨by rfl, ?_⟩) hHeld ?_
          · intro w2 hSw
            exact exec_load rfl rfl (run_loadVar_mid _ g2 (k * 9) _ (entA e) _ (range_kept9 n9 hSw) Try.underlying37 rfl (ent_size' _))
          try simp only [Act.put, List.getElem_toArray, List.getElem_cons_zero, List.getElem_cons_succ, List.setIfInBounds_toArray, List.set_cons_zero, List.set_cons_succ]
          refine wpAnyH_take (i := 9) (v := ?_) rfl (by kernel_rfl) (by kernel_rfl) (by kernel_rfl) (fun _ _ _ h => h) (Or.inl ⟨by rfl, ?_⟩) hHeld ?_
          rotate_left
          · intro w2 hSw
            go_simp
            all_goals rfl
          try simp only [Act.put, List.getElem_toArray, List.getElem_cons_zero, List.getElem_cons_succ, List.setIfInBounds_toArray, List.set_cons_zero, List.set_cons_succ]
          refine wpAnyH_take (i := 10) (v := ?_) rfl (by kernel_rfl) (by kernel_rfl) (by kernel_rfl) (fun _ _ _ h => h) (Or.inl ⟨by rfl, ?_⟩) hHeld ?_
          rotate_left
          · intro w2 hSw
            go_simp
            all_goals rfl
          try simp only [Act.put, List.getElem_toArray, List.getElem_cons_zero, List.getElem_cons_succ, List.setIfInBounds_toArray, List.set_cons_zero, List.set_cons_succ]
          refine wpAnyH_take (i := 11) (v := ?_) rfl (by kernel_rfl) (by kernel_rfl) (by kernel_rfl) (fun _ _ _ h => h) (Or.inl ⟨by rfl, ?_⟩) hHeld ?_
          rotate_left
          · intro w2 hSw
            go_simp
            all_goals rfl
          try simp only [Act.put, List.getElem_toArray, List.getElem_cons_zero, List.getElem_cons_succ, List.setIfInBounds_toArray, List.set_cons_zero, List.set_cons_succ]
          refine wpAnyH_take (i := 12) (v := .agg (entA e).toArray) rfl (by kernel_rfl) (by kernel_rfl) (by kernel_rfl) (fun _ _ _ h => h) (Or.inl ⟨by rfl, ?_⟩) hHeld ?_
          · intro w2 hSw
            exact exec_load rfl rfl (run_loadVar_mid _ g (i * 9) _ (entA e) _ (range_kept9 r9 hSw) Try.underlying37 rfl (ent_size' _))
          try simp only [Act.put, List.getElem_toArray, List.getElem_cons_zero, List.getElem_cons_succ, List.setIfInBounds_toArray, List.set_cons_zero, List.set_cons_succ]
          refine wpAnyH_take (i := 13) (v := .bool true) rfl (by kernel_rfl) (by kernel_rfl) (by kernel_rfl) (fun _ _ _ h => h) (Or.inl ⟨by rfl, ?_⟩) hHeld ?_
          · intro w2 hSw
            exact (exec_eqE rfl rfl rfl).trans (by rw [heq])
          try simp only [Act.put, List.getElem_toArray, List.getElem_cons_zero, List.getElem_cons_succ, List.setIfInBounds_toArray, List.set_cons_zero, List.set_cons_succ]
          refine wpAnyH_take (i := 14) (v := ?_) rfl (by kernel_rfl) (by kernel_rfl) (by kernel_rfl) (fun _ _ _ h => h) (Or.inl ⟨by rfl, ?_⟩) hHeld ?_
          rotate_left
          · intro w2 hSw
            go_simp
            all_goals rfl
          try simp only [Act.put, List.getElem_toArray, List.getElem_cons_zero, List.getElem_cons_succ, List.setIfInBounds_toArray, List.set_cons_zero, List.set_cons_succ]
          refine wpAnyH_take (i := 15) (v := ?_) rfl (by kernel_rfl) (by kernel_rfl) (by kernel_rfl) (fun _ _ _ h => h) (Or.inl ⟨by rfl, ?_⟩) hHeld ?_
          rotate_left
          · intro w2 hSw
            go_simp
            all_goals rfl
          try simp only [Act.put, List.getElem_toArray, List.getElem_cons_zero, List.getElem_cons_succ, List.setIfInBounds_toArray, List.set_cons_zero, List.set_cons_succ]
          refine wpAnyH_done (by kernel_rfl) ?_ _
          have c2 : _ = some (Value.int .i64 e.page) := hHeld.cell (r9 2 _ rfl)
          have c3 : _ = some (Value.int .i64 e.asid) := hHeld.cell (r9 3 _ rfl)
          go_wp2_with fail
          exact ⟨⟨i + 1, by omega, by rw [hst]; go_num, by go_num, kE9⟩, by simp [intOf]; omega⟩
        · have c1 : _ = some (Value.bool true) := (hr 1 _ rfl).trans (congrArg (fun x => some (Value.bool x)) hx)
          have c4 : _ = some (Value.int .i64 e.vmid) := hr 4 _ rfl
          cases hy : (e.vmid == vmI C)
          · clear hP9
            go_upto_region 17 with fail
            have kd : Kept wr wr.drew := (Only.refl _ wr).drew
            have r9 := range_kept9 hr kd
            have n9 := range_kept9 hn kd
            have kE9 : Kept wE wr.drew := hk.then kd
            clear hr hk kd hn
            refine wp_region_held_drew (S := fun w2 => Kept wr.drew w2) (by kernel_rfl) (Only.refl _ _) (fun hHeld => ?_)
            generalize wr.drew = wd at *
            refine wpAnyH_take (i := 0) (v := ?_) rfl (by kernel_rfl) (by kernel_rfl) (by kernel_rfl) (fun _ _ _ h => h) (Or.inl ⟨by rfl, ?_⟩) hHeld ?_
            rotate_left
            · intro w2 hSw
              go_simp
              all_goals rfl
            try simp only [Act.put, List.getElem_toArray, List.getElem_cons_zero, List.setIfInBounds_toArray, List.set_cons_zero, List.set_cons_succ]
            refine wpAnyH_take (i := 1) (v := ?_) rfl (by kernel_rfl) (by kernel_rfl) (by kernel_rfl) (fun _ _ _ h => h) (Or.inl ⟨by rfl, ?_⟩) hHeld ?_
            rotate_left
            · intro w2 hSw
              go_simp
              all_goals rfl
            try simp only [Act.put, List.getElem_toArray, List.getElem_cons_zero, List.getElem_cons_succ, List.setIfInBounds_toArray, List.set_cons_zero, List.set_cons_succ]
            refine wpAnyH_take (i := 2) (v := ?_) rfl (by kernel_rfl) (by kernel_rfl) (by kernel_rfl) (fun _ _ _ h => h) (Or.inl ⟨by rfl, ?_⟩) hHeld ?_
            rotate_left
            · intro w2 hSw
              go_simp
              all_goals rfl
            try simp only [Act.put, List.getElem_toArray, List.getElem_cons_zero, List.getElem_cons_succ, List.setIfInBounds_toArray, List.set_cons_zero, List.set_cons_succ]
            refine wpAnyH_take (i := 3) (v := ?_) rfl (by kernel_rfl) (by kernel_rfl) (by kernel_rfl) (fun _ _ _ h => h) (Or.inl ⟨by rfl, ?_⟩) hHeld ?_
            rotate_left
            · intro w2 hSw
              go_simp
              all_goals rfl
            try simp only [Act.put, List.getElem_toArray, List.getElem_cons_zero, List.getElem_cons_succ, List.setIfInBounds_toArray, List.set_cons_zero, List.set_cons_succ]
            refine wpAnyH_take (i := 4) (v := ?_) rfl (by kernel_rfl) (by kernel_rfl) (by kernel_rfl) (fun _ _ _ h => h) (Or.inl ⟨by rfl, ?_⟩) hHeld ?_
            rotate_left
            · intro w2 hSw
              go_simp
              all_goals rfl
            try simp only [Act.put, List.getElem_toArray, List.getElem_cons_zero, List.getElem_cons_succ, List.setIfInBounds_toArray, List.set_cons_zero, List.set_cons_succ]
            refine wpAnyH_take (i := 5) (v := ?_) rfl (by kernel_rfl) (by kernel_rfl) (by kernel_rfl) (fun _ _ _ h => h) (Or.inl ⟨by rfl, ?_⟩) hHeld ?_
            rotate_left
            · intro w2 hSw
              go_simp
              all_goals rfl
            try simp only [Act.put, List.getElem_toArray, List.getElem_cons_zero, List.getElem_cons_succ, List.setIfInBounds_toArray, List.set_cons_zero, List.set_cons_succ]
            refine wpAnyH_take (i := 6) (v := ?_) rfl (by kernel_rfl) (by kernel_rfl) (by kernel_rfl) (fun _ _ _ h => h) (Or.inl ⟨by rfl, ?_⟩) hHeld ?_
            rotate_left
            · intro w2 hSw
              go_simp
              all_goals rfl
            try simp only [Act.put, List.getElem_toArray, List.getElem_cons_zero, List.getElem_cons_succ, List.setIfInBounds_toArray, List.set_cons_zero, List.set_cons_succ]
            refine wpAnyH_take (i := 7) (v := ?_) rfl (by kernel_rfl) (by kernel_rfl) (by kernel_rfl) (fun _ _ _ h => h) (Or.inl ⟨by rfl, ?_⟩) hHeld ?_
            rotate_left
            · intro w2 hSw
              go_simp
              all_goals rfl
            try simp only [Act.put, List.getElem_toArray, List.getElem_cons_zero, List.getElem_cons_succ, List.setIfInBounds_toArray, List.set_cons_zero, List.set_cons_succ]
            refine wpAnyH_take (i := 8) (v := .agg (entA e).toArray) rfl (by kernel_rfl) (by kernel_rfl) (by kernel_rfl) (fun _ _ _ h => h) (Or.inl ⟨by rfl, ?_⟩) hHeld ?_
            · intro w2 hSw
              exact exec_load rfl rfl (run_loadVar_mid _ g2 (k * 9) _ (entA e) _ (range_kept9 n9 hSw) Try.underlying37 rfl (ent_size' _))
            try simp only [Act.put, List.getElem_toArray, List.getElem_cons_zero, List.getElem_cons_succ, List.setIfInBounds_toArray, List.set_cons_zero, List.set_cons_succ]
            refine wpAnyH_take (i := 9) (v := ?_) rfl (by kernel_rfl) (by kernel_rfl) (by kernel_rfl) (fun _ _ _ h => h) (Or.inl ⟨by rfl, ?_⟩) hHeld ?_
            rotate_left
            · intro w2 hSw
              go_simp
              all_goals rfl
            try simp only [Act.put, List.getElem_toArray, List.getElem_cons_zero, List.getElem_cons_succ, List.setIfInBounds_toArray, List.set_cons_zero, List.set_cons_succ]
            refine wpAnyH_take (i := 10) (v := ?_) rfl (by kernel_rfl) (by kernel_rfl) (by kernel_rfl) (fun _ _ _ h => h) (Or.inl ⟨by rfl, ?_⟩) hHeld ?_
            rotate_left
            · intro w2 hSw
              go_simp
              all_goals rfl
            try simp only [Act.put, List.getElem_toArray, List.getElem_cons_zero, List.getElem_cons_succ, List.setIfInBounds_toArray, List.set_cons_zero, List.set_cons_succ]
            refine wpAnyH_take (i := 11) (v := ?_) rfl (by kernel_rfl) (by kernel_rfl) (by kernel_rfl) (fun _ _ _ h => h) (Or.inl ⟨by rfl, ?_⟩) hHeld ?_
            rotate_left
            · intro w2 hSw
              go_simp
              all_goals rfl
            try simp only [Act.put, List.getElem_toArray, List.getElem_cons_zero, List.getElem_cons_succ, List.setIfInBounds_toArray, List.set_cons_zero, List.set_cons_succ]
            refine wpAnyH_take (i := 12) (v := .agg (entA e).toArray) rfl (by kernel_rfl) (by kernel_rfl) (by kernel_rfl) (fun _ _ _ h => h) (Or.inl ⟨by rfl, ?_⟩) hHeld ?_
            · intro w2 hSw
              exact exec_load rfl rfl (run_loadVar_mid _ g (i * 9) _ (entA e) _ (range_kept9 r9 hSw) Try.underlying37 rfl (ent_size' _))
            try simp only [Act.put, List.getElem_toArray, List.getElem_cons_zero, List.getElem_cons_succ, List.setIfInBounds_toArray, List.set_cons_zero, List.set_cons_succ]
            refine wpAnyH_take (i := 13) (v := .bool true) rfl (by kernel_rfl) (by kernel_rfl) (by kernel_rfl) (fun _ _ _ h => h) (Or.inl ⟨by rfl, ?_⟩) hHeld ?_
            · intro w2 hSw
              exact (exec_eqE rfl rfl rfl).trans (by rw [heq])
            try simp only [Act.put, List.getElem_toArray, List.getElem_cons_zero, List.getElem_cons_succ, List.setIfInBounds_toArray, List.set_cons_zero, List.set_cons_succ]
            refine wpAnyH_take (i := 14) (v := ?_) rfl (by kernel_rfl) (by kernel_rfl) (by kernel_rfl) (fun _ _ _ h => h) (Or.inl ⟨by rfl, ?_⟩) hHeld ?_
            rotate_left
            · intro w2 hSw
              go_simp
              all_goals rfl
            try simp only [Act.put, List.getElem_toArray, List.getElem_cons_zero, List.getElem_cons_succ, List.setIfInBounds_toArray, List.set_cons_zero, List.set_cons_succ]
            refine wpAnyH_take (i := 15) (v := ?_) rfl (by kernel_rfl) (by kernel_rfl) (by kernel_rfl) (fun _ _ _ h => h) (Or.inl ⟨by rfl, ?_⟩) hHeld ?_
            rotate_left
            · intro w2 hSw
              go_simp
              all_goals rfl
            try simp only [Act.put, List.getElem_toArray, List.getElem_cons_zero, List.getElem_cons_succ, List.setIfInBounds_toArray, List.set_cons_zero, List.set_cons_succ]
            refine wpAnyH_done (by kernel_rfl) ?_ _
            have c2 : _ = some (Value.int .i64 e.page) := hHeld.cell (r9 2 _ rfl)
            have c3 : _ = some (Value.int .i64 e.asid) := hHeld.cell (r9 3 _ rfl)
            go_wp2_with fail
            exact ⟨⟨i + 1, by omega, by rw [hst]; go_num, by go_num, kE9⟩, by simp [intOf]; omega⟩
          · rcases gP_no hP9 hev hx hy with ⟨z1, z2⟩ | ⟨z1, z2, z3⟩ | ⟨z1, z2, z3, z4⟩
            all_goals
              clear hP9
              go_upto_region 17 with fail
              have kd : Kept wr wr.drew := (Only.refl _ wr).drew
              have r9 := range_kept9 hr kd
              have n9 := range_kept9 hn kd
              have kE9 : Kept wE wr.drew := hk.then kd
              clear hr hk kd hn
              refine wp_region_held_drew (S := fun w2 => Kept wr.drew w2) (by kernel_rfl) (Only.refl _ _) (fun hHeld => ?_)
              generalize wr.drew = wd at *
              refine wpAnyH_take (i := 0) (v := ?_) rfl (by kernel_rfl) (by kernel_rfl) (by kernel_rfl) (fun _ _ _ h => h) (Or.inl ⟨by rfl, ?_⟩) hHeld ?_
              rotate_left
              · intro w2 hSw
                go_simp
                all_goals rfl
              try simp only [Act.put, List.getElem_toArray, List.getElem_cons_zero, List.setIfInBounds_toArray, List.set_cons_zero, List.set_cons_succ]
              refine wpAnyH_take (i := 1) (v := ?_) rfl (by kernel_rfl) (by kernel_rfl) (by kernel_rfl) (fun _ _ _ h => h) (Or.inl ⟨by rfl, ?_⟩) hHeld ?_
              rotate_left
              · intro w2 hSw
                go_simp
                all_goals rfl
              try simp only [Act.put, List.getElem_toArray, List.getElem_cons_zero, List.getElem_cons_succ, List.setIfInBounds_toArray, List.set_cons_zero, List.set_cons_succ]
              refine wpAnyH_take (i := 2) (v := ?_) rfl (by kernel_rfl) (by kernel_rfl) (by kernel_rfl) (fun _ _ _ h => h) (Or.inl ⟨by rfl, ?_⟩) hHeld ?_
              rotate_left
              · intro w2 hSw
                go_simp
                all_goals rfl
              try simp only [Act.put, List.getElem_toArray, List.getElem_cons_zero, List.getElem_cons_succ, List.setIfInBounds_toArray, List.set_cons_zero, List.set_cons_succ]
              refine wpAnyH_take (i := 3) (v := ?_) rfl (by kernel_rfl) (by kernel_rfl) (by kernel_rfl) (fun _ _ _ h => h) (Or.inl ⟨by rfl, ?_⟩) hHeld ?_
              rotate_left
              · intro w2 hSw
                go_simp
                all_goals rfl
              try simp only [Act.put, List.getElem_toArray, List.getElem_cons_zero, List.getElem_cons_succ, List.setIfInBounds_toArray, List.set_cons_zero, List.set_cons_succ]
              refine wpAnyH_take (i := 4) (v := ?_) rfl (by kernel_rfl) (by kernel_rfl) (by kernel_rfl) (fun _ _ _ h => h) (Or.inl ⟨by rfl, ?_⟩) hHeld ?_
              rotate_left
              · intro w2 hSw
                go_simp
                all_goals rfl
              try simp only [Act.put, List.getElem_toArray, List.getElem_cons_zero, List.getElem_cons_succ, List.setIfInBounds_toArray, List.set_cons_zero, List.set_cons_succ]
              refine wpAnyH_take (i := 5) (v := ?_) rfl (by kernel_rfl) (by kernel_rfl) (by kernel_rfl) (fun _ _ _ h => h) (Or.inl ⟨by rfl, ?_⟩) hHeld ?_
              rotate_left
              · intro w2 hSw
                go_simp
                all_goals rfl
              try simp only [Act.put, List.getElem_toArray, List.getElem_cons_zero, List.getElem_cons_succ, List.setIfInBounds_toArray, List.set_cons_zero, List.set_cons_succ]
              refine wpAnyH_take (i := 6) (v := ?_) rfl (by kernel_rfl) (by kernel_rfl) (by kernel_rfl) (fun _ _ _ h => h) (Or.inl ⟨by rfl, ?_⟩) hHeld ?_
              rotate_left
              · intro w2 hSw
                go_simp
                all_goals rfl
              try simp only [Act.put, List.getElem_toArray, List.getElem_cons_zero, List.getElem_cons_succ, List.setIfInBounds_toArray, List.set_cons_zero, List.set_cons_succ]
              refine wpAnyH_take (i := 7) (v := ?_) rfl (by kernel_rfl) (by kernel_rfl) (by kernel_rfl) (fun _ _ _ h => h) (Or.inl ⟨by rfl, ?_⟩) hHeld ?_
              rotate_left
              · intro w2 hSw
                go_simp
                all_goals rfl
              try simp only [Act.put, List.getElem_toArray, List.getElem_cons_zero, List.getElem_cons_succ, List.setIfInBounds_toArray, List.set_cons_zero, List.set_cons_succ]
              refine wpAnyH_take (i := 8) (v := .agg (entA e).toArray) rfl (by kernel_rfl) (by kernel_rfl) (by kernel_rfl) (fun _ _ _ h => h) (Or.inl ⟨by rfl, ?_⟩) hHeld ?_
              · intro w2 hSw
                exact exec_load rfl rfl (run_loadVar_mid _ g2 (k * 9) _ (entA e) _ (range_kept9 n9 hSw) Try.underlying37 rfl (ent_size' _))
              try simp only [Act.put, List.getElem_toArray, List.getElem_cons_zero, List.getElem_cons_succ, List.setIfInBounds_toArray, List.set_cons_zero, List.set_cons_succ]
              refine wpAnyH_take (i := 9) (v := ?_) rfl (by kernel_rfl) (by kernel_rfl) (by kernel_rfl) (fun _ _ _ h => h) (Or.inl ⟨by rfl, ?_⟩) hHeld ?_
              rotate_left
              · intro w2 hSw
                go_simp
                all_goals rfl
              try simp only [Act.put, List.getElem_toArray, List.getElem_cons_zero, List.getElem_cons_succ, List.setIfInBounds_toArray, List.set_cons_zero, List.set_cons_succ]
              refine wpAnyH_take (i := 10) (v := ?_) rfl (by kernel_rfl) (by kernel_rfl) (by kernel_rfl) (fun _ _ _ h => h) (Or.inl ⟨by rfl, ?_⟩) hHeld ?_
              rotate_left
              · intro w2 hSw
                go_simp
                all_goals rfl
              try simp only [Act.put, List.getElem_toArray, List.getElem_cons_zero, List.getElem_cons_succ, List.setIfInBounds_toArray, List.set_cons_zero, List.set_cons_succ]
              refine wpAnyH_take (i := 11) (v := ?_) rfl (by kernel_rfl) (by kernel_rfl) (by kernel_rfl) (fun _ _ _ h => h) (Or.inl ⟨by rfl, ?_⟩) hHeld ?_
              rotate_left
              · intro w2 hSw
                go_simp
                all_goals rfl
              try simp only [Act.put, List.getElem_toArray, List.getElem_cons_zero, List.getElem_cons_succ, List.setIfInBounds_toArray, List.set_cons_zero, List.set_cons_succ]
              refine wpAnyH_take (i := 12) (v := .agg (entA e).toArray) rfl (by kernel_rfl) (by kernel_rfl) (by kernel_rfl) (fun _ _ _ h => h) (Or.inl ⟨by rfl, ?_⟩) hHeld ?_
              · intro w2 hSw
                exact exec_load rfl rfl (run_loadVar_mid _ g (i * 9) _ (entA e) _ (range_kept9 r9 hSw) Try.underlying37 rfl (ent_size' _))
              try simp only [Act.put, List.getElem_toArray, List.getElem_cons_zero, List.getElem_cons_succ, List.setIfInBounds_toArray, List.set_cons_zero, List.set_cons_succ]
              refine wpAnyH_take (i := 13) (v := .bool true) rfl (by kernel_rfl) (by kernel_rfl) (by kernel_rfl) (fun _ _ _ h => h) (Or.inl ⟨by rfl, ?_⟩) hHeld ?_
              · intro w2 hSw
                exact (exec_eqE rfl rfl rfl).trans (by rw [heq])
              try simp only [Act.put, List.getElem_toArray, List.getElem_cons_zero, List.getElem_cons_succ, List.setIfInBounds_toArray, List.set_cons_zero, List.set_cons_succ]
              refine wpAnyH_take (i := 14) (v := ?_) rfl (by kernel_rfl) (by kernel_rfl) (by kernel_rfl) (fun _ _ _ h => h) (Or.inl ⟨by rfl, ?_⟩) hHeld ?_
              rotate_left
              · intro w2 hSw
                go_simp
                all_goals rfl
              try simp only [Act.put, List.getElem_toArray, List.getElem_cons_zero, List.getElem_cons_succ, List.setIfInBounds_toArray, List.set_cons_zero, List.set_cons_succ]
              refine wpAnyH_take (i := 15) (v := ?_) rfl (by kernel_rfl) (by kernel_rfl) (by kernel_rfl) (fun _ _ _ h => h) (Or.inl ⟨by rfl, ?_⟩) hHeld ?_
              rotate_left
              · intro w2 hSw
                go_simp
                all_goals rfl
              try simp only [Act.put, List.getElem_toArray, List.getElem_cons_zero, List.getElem_cons_succ, List.setIfInBounds_toArray, List.set_cons_zero, List.set_cons_succ]
              refine wpAnyH_done (by kernel_rfl) ?_ _
              have c2 : _ = some (Value.int .i64 e.page) := hHeld.cell (r9 2 _ rfl)
              have c3 : _ = some (Value.int .i64 e.asid) := hHeld.cell (r9 3 _ rfl)
              go_wp2_with fail
              exact ⟨⟨i + 1, by omega, by rw [hst]; go_num, by go_num, kE9⟩, by simp [intOf]; omega⟩
    · obtain rfl : i = A.length := by omega
      rw [kN_end, hN]
      go_wp2_with fail
      go_ret
      exact ⟨by simp, kE.then hk⟩
end Go.Proofs.Ytpfblbleendpiaa
