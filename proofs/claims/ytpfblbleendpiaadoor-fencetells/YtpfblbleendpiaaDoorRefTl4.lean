/-
  What is filled, as the document's own call answers: walked whole, for every argument.
-/
import Derived.Test.YtpfblbleendpiaaDoorRefTl3
import Derived.Test.YtpfblbleendpiaaDoorPteDoc
namespace Go.Proofs.YtpfblbleendpiaaDoor
open Go.RowKit
section
variable {w : World} {b : Nat} {T : Nat → EntM}
theorem fill_no (T : Nat → EntM) {e : EntM} (pick : Int) (h : e.valid = false) : fillT T e pick = T := by unfold fillT; rw [h]; rfl
theorem fill_yes (T : Nat → EntM) {e : EntM} (pick : Int) (h : e.valid = true) : fillT T e pick = setT T (spotT T e pick) e := by unfold fillT; rw [h]; rfl
/-- Where the search for room stands. -/
def roomS (T : Nat → EntM) (r : Int) (k : Nat) (i : Int) : Prop :=
  (0 ≤ r ∧ i = r) ∨ (r = -1 ∧ i = -1 ∧ findF (freeP T) 16 0 = findF (freeP T) (16 - k) k) ∨ (r = -1 ∧ 0 ≤ i ∧ i < 16 ∧ findF (freeP T) 16 0 = i)
set_option maxRecDepth 10000 in
set_option maxHeartbeats 4000000 in
theorem rtfill_any (ht : TlAt w b T) (e : EntM) (pick : Int) :
    Calls Tryd.prog 21 #[.pointer (some ⟨b, 0, none⟩), .agg (entA e).toArray, .int .i64 pick] w fun r w' => r = .returned (.tuple #[]) ∧ TlAt w' b (fillT T e pick) ∧ Only (fun i => i = b) w w' := by
  have kb := (Only.refl (fun _ => False) w).alloc (.cells (entA e).toArray 47)
  have bl : Blk (w.alloc (.cells (entA e).toArray 47)) w.heap.size 47 (entA e).toArray := alloc_last w _ _
  have c0 : _ = some (Value.bool e.valid) := bl.cell 0
  cases hv : e.valid
  · rw [fill_no T pick hv]
    rw [hv] at c0
    clear bl
    go_enter Tryd.func21, Tryd.ntmps21
    go_wp2_with fail
    refine bodyPost_ret (results_none rfl _ _ _) rfl ⟨rfl, ht.kept kb, Kept.then kb (Only.refl _ _)⟩
  · rw [fill_yes T pick hv]
    have c1 : _ = some (Value.bool e.v) := bl.cell 1
    have c2 : _ = some (Value.int .i64 e.page) := bl.cell 2
    have c3 : _ = some (Value.int .i64 e.asid) := bl.cell 3
    have c4 : _ = some (Value.int .i64 e.vmid) := bl.cell 4
    rw [hv] at c0
    have hpk : bits .and .i64 pick 15 = pick % 16 := i_low pick 4 (by omega) 15 rfl
    have hbd := find_cases (hitP T e.page e.v e.asid e.vmid) 16 0
    have hat : atT T e.page e.v e.asid e.vmid = findF (hitP T e.page e.v e.asid e.vmid) 16 0 := rfl
    rw [← hat] at hbd
    have hr1 : atT T e.page e.v e.asid e.vmid = -1 ∨ (0 ≤ atT T e.page e.v e.asid e.vmid ∧ atT T e.page e.v e.asid e.vmid < 16) := by
      rcases hbd with h | ⟨j, _, h2, _, h4⟩ <;> omega
    have hsp : spotT T e pick = if ¬ atT T e.page e.v e.asid e.vmid < 0 then atT T e.page e.v e.asid e.vmid else if ¬ findF (freeP T) 16 0 < 0 then findF (freeP T) 16 0 else pick % 16 := rfl
    go_enter Tryd.func21, Tryd.ntmps21
    go_wp2_with fail
    refine (rtat_any (ht.kept kb) e.page e.v e.asid e.vmid).mono ?_
    rintro r w1 ⟨rfl, k1⟩
    have hb1 : Blk w1 w.heap.size 47 (entA e).toArray := bl.kept k1
    have hne : ¬ w.heap.size = b := by have := ht.lt; omega
    have hk1 : Kept w w1 := kb.then k1
    clear bl c0 c1 c2 c3 c4 kb k1 hbd hat
    generalize w.heap.size = eb at *
    generalize atT T e.page e.v e.asid e.vmid = r at *
    go_wp2_with fail
    go_loopw [7, 6] (fun k i wr => ∃ (K : Nat) (I : Int), K ≤ 16 ∧ k = .int .i64 (K : Int) ∧ i = .int .i64 I ∧ roomS T r K I ∧ Kept w1 wr) (fun k _ _ => 16 - (intOf k).toNat)
    case atStart =>
      refine ⟨0, r, by omega, rfl, rfl, ?_, Only.refl _ _⟩
      rcases hr1 with rfl | h
      · exact .inr (.inl ⟨rfl, rfl, rfl⟩)
      · exact .inl ⟨h.1, rfl⟩
    case round =>
      obtain ⟨k, i, hk, rfl, rfl, hs, hg1⟩ := hrel
      have hg : Kept w wr := hk1.then hg1
      have hbl := hb1.kept hg1
      have hg0 := hg1
      clear hb1 hk1 hg1
      have done : ∀ J : Nat, i = (J : Int) → (0 ≤ r ∧ i = r) ∨ (r = -1 ∧ 0 ≤ i ∧ i < 16 ∧ findF (freeP T) 16 0 = i) → J < 16 ∧ spotT T e pick = (J : Int) := by
        intro J hJ h
        rw [hsp]
        rcases h with ⟨h0, h1⟩ | ⟨h0, h1, h2, h3⟩
        · rw [if_pos (by omega)]
          omega
        · rw [if_neg (by omega), h3, if_pos (by omega)]
          omega
      by_cases hi : 0 ≤ i
      · obtain ⟨J, rfl⟩ := Int.eq_ofNat_of_zero_le hi
        obtain ⟨hI, hsJ⟩ := done J rfl (by
          rcases hs with h | ⟨_, h, _⟩ | h
          · exact .inl h
          · omega
          · exact .inr h)
        have hn : ¬ (J : Int) < 0 := by omega
        have hJ16 : (J : Int) < 16 := by omega
        clear done hs hsp
        go_upto_region 10 with fail
        all_goals
          have hT9 := (ht.kept hg).kept ((Only.refl _ wr).drew)
          have he9 : Blk wr.drew eb 47 (entA e).toArray := hbl.kept ((Only.refl _ wr).drew)
          refine wp_region_held_drew (S := fun w2 => Only (fun i => i = b) wr.drew w2) (by kernel_rfl) (Only.refl _ _) (fun hHeld => ?_)
          refine wpAnyH_take (i := 0) (v := ?_) rfl (by kernel_rfl) (by kernel_rfl) (by kernel_rfl) (fun _ _ _ h => h) (Or.inl ⟨by rfl, ?_⟩) hHeld ?_
          rotate_left
          · intro w2 hSw
            go_simp
            all_goals rfl
          try simp only [Act.put, List.getElem_toArray, List.getElem_cons_zero, List.setIfInBounds_toArray, List.set_cons_zero, List.set_cons_succ]
          refine wpAnyH_take (i := 1) (v := ?_) rfl (by kernel_rfl) (by kernel_rfl) (by kernel_rfl) (fun _ _ _ h => h) (Or.inl ⟨by rfl, ?_⟩) hHeld ?_
          rotate_left
          · intro w2 hSw
            go_simp
            all_goals rfl
          try simp only [Act.put, List.getElem_toArray, List.getElem_cons_zero, List.getElem_cons_succ, List.setIfInBounds_toArray, List.set_cons_zero, List.set_cons_succ]
          refine wpAnyH_take (i := 2) (v := .agg (entA e).toArray) rfl (by kernel_rfl) (by kernel_rfl) (by kernel_rfl) (fun _ _ _ h => h) (Or.inl ⟨by rfl, ?_⟩) hHeld ?_
          · intro w2 hSw
            exact exec_load rfl rfl (run_loadVar_mid w2 eb 0 _ (entA e) _ (Blk.range (hSw.block he9 hne)) Tryd.underlying47 rfl (ent_size' _))
          try simp only [Act.put, List.getElem_toArray, List.getElem_cons_zero, List.getElem_cons_succ, List.setIfInBounds_toArray, List.set_cons_zero, List.set_cons_succ]
          refine wpAnyH_take (i := 3) (v := ?_) rfl (by kernel_rfl) (by kernel_rfl) (by kernel_rfl) (fun _ _ _ h => h) (Or.inl ⟨by rfl, ?_⟩) hHeld ?_
          rotate_left
          · intro w2 hSw
            go_simp
            all_goals rfl
          try simp only [Act.put, List.getElem_toArray, List.getElem_cons_zero, List.getElem_cons_succ, List.setIfInBounds_toArray, List.set_cons_zero, List.set_cons_succ]
          refine wpAnyH_take (i := 4) (v := ?_) rfl (by kernel_rfl) (by kernel_rfl) (by kernel_rfl) (fun _ _ _ h => h) (Or.inl ⟨by rfl, ?_⟩) hHeld ?_
          rotate_left
          · intro w2 hSw
            go_simp
            all_goals rfl
          try simp only [Act.put, List.getElem_toArray, List.getElem_cons_zero, List.getElem_cons_succ, List.setIfInBounds_toArray, List.set_cons_zero, List.set_cons_succ]
          refine wpAnyH_take (i := 5) (v := ?_) rfl (by kernel_rfl) (by kernel_rfl) (by kernel_rfl) (fun _ _ _ h => h) (Or.inl ⟨by rfl, ?_⟩) hHeld ?_
          rotate_left
          · intro w2 hSw
            go_simp
            all_goals rfl
          try simp only [Act.put, List.getElem_toArray, List.getElem_cons_zero, List.getElem_cons_succ, List.setIfInBounds_toArray, List.set_cons_zero, List.set_cons_succ]
          refine wpAnyH_ready (rs := [6]) (by kernel_rfl) (by simp) ?_
          refine AllReadyH.cons rfl (fun K hK => ?_) AllReadyH.nil
          rw [if_pos (by rfl)]
          refine wp_store_mid _ _ _ rfl b (J * 9) (entA e).toArray rfl rfl (hT9.there hI) (ent_size' _) (ent_ones' _) ?_
          refine hK.out _ _ (hHeld.trans (only_cells b (entA e) (J * 9) _)) (fun hHeld => ?_)
          clear hK K
          try simp only [Act.put, List.getElem_toArray, List.getElem_cons_zero, List.getElem_cons_succ]
          refine wpAnyH_done (by kernel_rfl) ?_ _
          go_wp2_with fail
          go_end0
          exact ⟨rfl, hT9.set hI e, (Kept.then hg (Only.refl _ wr).drew).trans (only_cells b (entA e) (J * 9) _)⟩
      · obtain ⟨hr, rfl, hf⟩ : r = -1 ∧ i = -1 ∧ findF (freeP T) 16 0 = findF (freeP T) (16 - k) k := by
          rcases hs with h | h | h
          · omega
          · exact h
          · omega
        by_cases hlt : k < 16
        · have hlt' : (k : Int) < 16 := by omega
          have hk0 : (0 : Int) ≤ (k : Int) := by omega
          have c0 : wr.cell? ⟨b, k * 9, none⟩ = some (.bool (T k).valid) := (ht.kept hg).cell k hlt 0 _ rfl
          have hkeep : k < 16 := hlt
          have hg1 : Kept w1 wr := hg0
          cases hvk : (T k).valid
          · have hf9 : findF (freeP T) 16 0 = (k : Int) := find_here hlt hf (by unfold freeP; rw [hvk]; rfl)
            rw [hvk] at c0
            clear done hf hs hsp hbl
            go_wp2_with fail
            exact ⟨⟨k + 1, (k : Int), by omega, by go_num, rfl, .inr (.inr ⟨hr, by omega, by omega, hf9⟩), hg1⟩, by simp [intOf]; omega⟩
          · have hf9 := find_step hlt hf (by unfold freeP; rw [hvk]; rfl)
            rw [hvk] at c0
            clear done hf hs hsp hbl
            go_wp2_with fail
            exact ⟨⟨k + 1, -1, by omega, by go_num, rfl, .inr (.inl ⟨hr, rfl, hf9⟩), hg1⟩, by simp [intOf]; omega⟩
        · obtain rfl : k = 16 := by omega
          have hf9 := find_end hf
          obtain ⟨J, hJ⟩ := Int.eq_ofNat_of_zero_le (show 0 ≤ pick % 16 by omega)
          have hI : J < 16 := by omega
          have hsJ : spotT T e pick = (J : Int) := by
            rw [hsp, hr, if_neg (by omega), hf9, if_neg (by omega), hJ]
          have hJ0 : (0 : Int) ≤ (J : Int) := by omega
          have hJ16 : (J : Int) < 16 := by omega
          rw [hJ] at hpk
          clear done hs hsp hf hf9 hJ
          go_upto_region 10 with fail
          have hT9 := (ht.kept hg).kept ((Only.refl _ wr).drew)
          have he9 : Blk wr.drew eb 47 (entA e).toArray := hbl.kept ((Only.refl _ wr).drew)
          refine wp_region_held_drew (S := fun w2 => Only (fun i => i = b) wr.drew w2) (by kernel_rfl) (Only.refl _ _) (fun hHeld => ?_)
          refine wpAnyH_take (i := 0) (v := ?_) rfl (by kernel_rfl) (by kernel_rfl) (by kernel_rfl) (fun _ _ _ h => h) (Or.inl ⟨by rfl, ?_⟩) hHeld ?_
          rotate_left
          · intro w2 hSw
            go_simp
            all_goals rfl
          try simp only [Act.put, List.getElem_toArray, List.getElem_cons_zero, List.setIfInBounds_toArray, List.set_cons_zero, List.set_cons_succ]
          refine wpAnyH_take (i := 1) (v := ?_) rfl (by kernel_rfl) (by kernel_rfl) (by kernel_rfl) (fun _ _ _ h => h) (Or.inl ⟨by rfl, ?_⟩) hHeld ?_
          rotate_left
          · intro w2 hSw
            go_simp
            all_goals rfl
          try simp only [Act.put, List.getElem_toArray, List.getElem_cons_zero, List.getElem_cons_succ, List.setIfInBounds_toArray, List.set_cons_zero, List.set_cons_succ]
          refine wpAnyH_take (i := 2) (v := .agg (entA e).toArray) rfl (by kernel_rfl) (by kernel_rfl) (by kernel_rfl) (fun _ _ _ h => h) (Or.inl ⟨by rfl, ?_⟩) hHeld ?_
          · intro w2 hSw
            exact exec_load rfl rfl (run_loadVar_mid w2 eb 0 _ (entA e) _ (Blk.range (hSw.block he9 hne)) Tryd.underlying47 rfl (ent_size' _))
          try simp only [Act.put, List.getElem_toArray, List.getElem_cons_zero, List.getElem_cons_succ, List.setIfInBounds_toArray, List.set_cons_zero, List.set_cons_succ]
          refine wpAnyH_take (i := 3) (v := ?_) rfl (by kernel_rfl) (by kernel_rfl) (by kernel_rfl) (fun _ _ _ h => h) (Or.inl ⟨by rfl, ?_⟩) hHeld ?_
          rotate_left
          · intro w2 hSw
            go_simp
            all_goals rfl
          try simp only [Act.put, List.getElem_toArray, List.getElem_cons_zero, List.getElem_cons_succ, List.setIfInBounds_toArray, List.set_cons_zero, List.set_cons_succ]
          refine wpAnyH_take (i := 4) (v := ?_) rfl (by kernel_rfl) (by kernel_rfl) (by kernel_rfl) (fun _ _ _ h => h) (Or.inl ⟨by rfl, ?_⟩) hHeld ?_
          rotate_left
          · intro w2 hSw
            go_simp
            all_goals rfl
          try simp only [Act.put, List.getElem_toArray, List.getElem_cons_zero, List.getElem_cons_succ, List.setIfInBounds_toArray, List.set_cons_zero, List.set_cons_succ]
          refine wpAnyH_take (i := 5) (v := ?_) rfl (by kernel_rfl) (by kernel_rfl) (by kernel_rfl) (fun _ _ _ h => h) (Or.inl ⟨by rfl, ?_⟩) hHeld ?_
          rotate_left
          · intro w2 hSw
            go_simp
            all_goals rfl
          try simp only [Act.put, List.getElem_toArray, List.getElem_cons_zero, List.getElem_cons_succ, List.setIfInBounds_toArray, List.set_cons_zero, List.set_cons_succ]
          refine wpAnyH_ready (rs := [6]) (by kernel_rfl) (by simp) ?_
          refine AllReadyH.cons rfl (fun K hK => ?_) AllReadyH.nil
          rw [if_pos (by rfl)]
          refine wp_store_mid _ _ _ rfl b (J * 9) (entA e).toArray rfl rfl (hT9.there hI) (ent_size' _) (ent_ones' _) ?_
          refine hK.out _ _ (hHeld.trans (only_cells b (entA e) (J * 9) _)) (fun hHeld => ?_)
          clear hK K
          try simp only [Act.put, List.getElem_toArray, List.getElem_cons_zero, List.getElem_cons_succ]
          refine wpAnyH_done (by kernel_rfl) ?_ _
          go_wp2_with fail
          go_end0
          exact ⟨rfl, hT9.set hI e, (Kept.then hg (Only.refl _ wr).drew).trans (only_cells b (entA e) (J * 9) _)⟩
end
end Go.Proofs.YtpfblbleendpiaaDoor
