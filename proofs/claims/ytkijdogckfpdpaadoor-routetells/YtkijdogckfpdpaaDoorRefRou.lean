/-
  Where a trap goes, as the document's own calls answer (Exception, Enabled, top, Interrupt of the reference): walked whole, for every argument.
-/
import Derived.Test.YtkijdogckfpdpaaDoorRouDoc
import Derived.Test.YtkijdogckfpdpaaDoorRefCsr2
import Derived.Test.YtkijdogckfpdpaaDoorRefCsr4
import Derived.Laws.ResultCell
import Derived.Deep.RegionHeld3
import Derived.Great.BuildSlice
namespace Go.Proofs.YtkijdogckfpdpaaDoor
open Go.RowKit
theorem run_loadVar_cell15 {w : World} {b o : Nat} {v : Value} {ty : TypeId} {d : TypeDesc} (h : w.cell? ⟨b, o, none⟩ = some v) (hd : (match d with | .struct _ | .array _ _ => false | _ => true) = true) (hu : Tryd.prog.underlying ty = some d) : (loadVar ty ⟨b, o, none⟩).run Tryd.prog w = .ok v w := by
  have hagg : (isAgg ty).run Tryd.prog w = .ok false w := by
    unfold isAgg
    rw [Sem.run_bind, run_underlying hu w]
    cases d <;> simp_all
  simp [loadVar, Sem.run_bind, hagg, h, go_sem]
theorem st_kept15 {w w' : World} {b : Nat} {S : StM} (h : StAt w b S) (g : Kept w w') : StAt w' b S := World.rowIs.of_block h (g.same b (World.rowIs.lt h) id)
section
variable {w : World} {S : StM}
set_option maxRecDepth 10000 in
set_option maxHeartbeats 1000000 in
theorem rbit15 (hS : S.Ok) {i k : Nat} (hi : i < 29) (hk : k < 64) :
    Calls Tryd.prog 20 #[.agg (rowOf 65 (stF S)), .int .i64 (i : Int), .int .i64 (k : Int)] w fun e w' => e = .returned (.bool (tb (S.C i) k)) ∧ Kept w w' := by
  have c1 := (st_new w S).c hi
  have l0 : (0 : Int) ≤ (i : Int) := by omega
  have l1 : (i : Int) < 29 := by omega
  have k0 : (0 : Int) ≤ (k : Int) := by omega
  have k1 : (k : Int) < 64 := by omega
  have u0 := (hS.C i hi).1
  go_enter Tryd.func20, Tryd.ntmps20
  go_wp2
  go_ret
  exact ⟨by rw [← bt_tb (hS.C i hi)]; rfl, (Only.refl _ w).alloc _⟩
set_option maxRecDepth 10000 in
set_option maxHeartbeats 1000000 in
theorem renab15 (t l : Bool) :
    Calls Tryd.prog 14 #[.agg (rowOf 65 (stF S)), .bool t, .bool l] w fun e w' => e = .returned (.int .u64 (enI S t l)) ∧ Kept w w' := by
  have h0 := st_new w S
  have k0 := (Only.refl (fun _ => False) w).alloc (.cells (rowOf 65 (stF S)) 26)
  go_enter Tryd.func14, Tryd.ntmps14
  go_upto_region 1 with fail
  generalize w.alloc (.cells (rowOf 65 (stF S)) 26) = w1 at *
  generalize w.heap.size = bb at *
  have kd : Kept w1 w1.drew := (Only.refl _ w1).drew
  have s9 := st_kept15 h0 kd
  have k9 := k0.then kd
  clear h0 k0 kd
  refine wp_region_held_drew (S := fun w2 => Kept w1.drew w2) (by kernel_rfl) (Only.refl _ _) (fun hHeld => ?_)
  generalize w1.drew = wd at *
  refine wpAnyH_take (i := 0) (v := .agg (rowOf 65 (stF S))) rfl (by kernel_rfl) (by kernel_rfl) (by kernel_rfl) (fun _ _ _ h => h) (Or.inl ⟨by rfl, ?_⟩) hHeld ?_
  · intro w2 hSw
    exact exec_load rfl rfl (load_state (st_kept15 s9 hSw))
  try simp only [Act.put, List.getElem_toArray, List.getElem_cons_zero, List.setIfInBounds_toArray, List.set_cons_zero, List.set_cons_succ]
  refine wpAnyH_take (i := 1) (v := ?_) rfl (by kernel_rfl) (by kernel_rfl) (by kernel_rfl) (fun _ _ _ h => h) (Or.inl ⟨by rfl, ?_⟩) hHeld ?_
  rotate_left
  · intro w2 hSw
    go_simp
    all_goals rfl
  try simp only [Act.put, List.getElem_toArray, List.getElem_cons_zero, List.getElem_cons_succ, List.setIfInBounds_toArray, List.set_cons_zero, List.set_cons_succ]
  refine wpAnyH_take (i := 2) (v := ?_) rfl (by kernel_rfl) (by kernel_rfl) (by kernel_rfl) (fun _ _ _ h => h) (Or.inl ⟨by rfl, ?_⟩) hHeld ?_
  rotate_left
  · intro w2 hSw
    go_simp
    all_goals rfl
  try simp only [Act.put, List.getElem_toArray, List.getElem_cons_zero, List.getElem_cons_succ, List.setIfInBounds_toArray, List.set_cons_zero, List.set_cons_succ]
  refine wpAnyH_take (i := 4) (v := ?_) rfl (by kernel_rfl) (by kernel_rfl) (by kernel_rfl) (fun _ _ _ h => h) (Or.inl ⟨by rfl, ?_⟩) hHeld ?_
  rotate_left
  · intro w2 hSw
    go_simp
    all_goals rfl
  try simp only [Act.put, List.getElem_toArray, List.getElem_cons_zero, List.getElem_cons_succ, List.setIfInBounds_toArray, List.set_cons_zero, List.set_cons_succ]
  refine wpAnyH_take (i := 5) (v := ?_) rfl (by kernel_rfl) (by kernel_rfl) (by kernel_rfl) (fun _ _ _ h => h) (Or.inl ⟨by rfl, ?_⟩) hHeld ?_
  rotate_left
  · intro w2 hSw
    go_simp
    all_goals rfl
  try simp only [Act.put, List.getElem_toArray, List.getElem_cons_zero, List.getElem_cons_succ, List.setIfInBounds_toArray, List.set_cons_zero, List.set_cons_succ]
  refine wpAnyH_take (i := 6) (v := .int .u64 (S.C 3)) rfl (by kernel_rfl) (by kernel_rfl) (by kernel_rfl) (fun _ _ _ h => h) (Or.inl ⟨by rfl, ?_⟩) hHeld ?_
  · intro w2 hSw
    exact exec_load rfl rfl (run_loadVar_cell15 ((st_kept15 s9 hSw).c (i := 3) (by omega)) rfl Tryd.underlying22)
  try simp only [Act.put, List.getElem_toArray, List.getElem_cons_zero, List.getElem_cons_succ, List.setIfInBounds_toArray, List.set_cons_zero, List.set_cons_succ]
  refine wpAnyH_ready (rs := [3]) (by kernel_rfl) (by simp) ?_
  refine AllReadyH.cons rfl (fun K hK => ?_) AllReadyH.nil
  go_simp
  refine (rpen_any S t l _).mono ?_
  rintro r wn ⟨rfl, kn⟩
  go_simp
  refine hK.out _ _ kn (fun hHeld => ?_)
  clear hK K
  try simp only [Act.put, List.getElem_toArray, List.getElem_cons_zero, List.getElem_cons_succ, List.setIfInBounds_toArray, List.set_cons_zero, List.set_cons_succ]
  refine wpAnyH_take (i := 7) (v := ?_) rfl (by kernel_rfl) (by kernel_rfl) (by kernel_rfl) (fun _ _ _ h => h) (Or.inl ⟨by rfl, ?_⟩) hHeld ?_
  rotate_left
  · intro w2 hSw
    go_simp
    all_goals rfl
  try simp only [Act.put, List.getElem_toArray, List.getElem_cons_zero, List.getElem_cons_succ, List.setIfInBounds_toArray, List.set_cons_zero, List.set_cons_succ]
  refine wpAnyH_take (i := 8) (v := ?_) rfl (by kernel_rfl) (by kernel_rfl) (by kernel_rfl) (fun _ _ _ h => h) (Or.inl ⟨by rfl, ?_⟩) hHeld ?_
  rotate_left
  · intro w2 hSw
    go_simp
    all_goals rfl
  try simp only [Act.put, List.getElem_toArray, List.getElem_cons_zero, List.getElem_cons_succ, List.setIfInBounds_toArray, List.set_cons_zero, List.set_cons_succ]
  refine wpAnyH_done (by kernel_rfl) ?_ _
  go_wp2
  go_ret
  exact ⟨rfl, k9.then kn⟩
set_option maxHeartbeats 1000000 in
theorem rtop15 {x : Int} (hx : U x) (g : Nat) (l : List Nat) (hl : l.length ≤ 4) (hk : ∀ k ∈ l, k < 64) (hc : ∀ (i : Nat) (h : i < l.length), w.cell? ⟨g, i, none⟩ = some (.int .i64 ((l[i] : Nat) : Int))) :
    Calls Tryd.prog 19 #[.int .u64 x, .slice (some ⟨g, 0, none⟩) l.length l.length] w fun e w' => e = .returned (.int .i64 (topI x l)) ∧ w' = w := by
  have u0 := hx.1
  go_enter Tryd.func19, Tryd.ntmps19
  go_wp2_with fail
  go_loopw [5] (fun i wr => ∃ j : Nat, j ≤ l.length ∧ i = .int .i64 (j : Int) ∧ topI x l = topI x (l.drop j) ∧ wr = w) (fun i _ => l.length - (intOf i).toNat)
  case atStart => exact ⟨0, by omega, rfl, rfl, rfl⟩
  case round =>
    obtain ⟨j, hj, rfl, ht, rfl⟩ := hrel
    by_cases hlt : j < l.length
    · have hlt' : (j : Int) < (l.length : Int) := by omega
      have hj0 : (0 : Int) ≤ (j : Int) := by omega
      have hj9 : (j : Int) ≤ 4 := by omega
      have hcj := hc j hlt
      have hkj := hk l[j] (List.getElem_mem hlt)
      have hd : l.drop j = l[j] :: l.drop (j + 1) := List.drop_eq_getElem_cons hlt
      rw [hd, topI] at ht
      have hkeep : j < l.length := hlt
      generalize l[j] = k at hcj hkj ht
      have k0 : (0 : Int) ≤ (k : Int) := by omega
      have k1 : (k : Int) < 64 := by omega
      have hb := bt_tb hx k
      unfold btB at hb
      clear hd hc hk
      cases hv : tb x k
      · rw [hv] at hb ht
        rw [cond_false] at ht
        go_wp2_with fail
        exact ⟨⟨j + 1, by omega, by go_num, ht, by first | rfl | trivial⟩, by simp [intOf]; omega⟩
      · rw [hv] at hb ht
        rw [cond_true] at ht
        go_wp2_with fail
        go_ret
        exact ⟨by first | rfl | (rw [ht]; rfl), rfl⟩
    · obtain rfl : j = l.length := by omega
      rw [List.drop_length] at ht
      go_wp2_with fail
      go_ret
      exact ⟨by first | rfl | (rw [ht]; rfl), rfl⟩
set_option maxRecDepth 10000 in
set_option maxHeartbeats 4000000 in
theorem rexc15 (hS : S.Ok) {c : Int} (hc : U c) :
    Calls Tryd.prog 10 #[.agg (rowOf 65 (stF S)), .int .u64 c] w fun e w' => e = .returned (.tuple #[.int .i64 (excL S c), .bool (excV S c)]) ∧ Kept w w' := by
  have h0 := st_new w S
  have k0 := (Only.refl (fun _ => False) w).alloc (.cells (rowOf 65 (stF S)) 26)
  have cl := st_lvl h0
  have c1 := h0.c (i := 1) (by omega)
  have u0 := hc.1
  by_cases hl : S.lvl = 3
  · have d : dwnB S c = false := by unfold dwnB; rw [hl]; rfl
    unfold excL excV
    rw [d]
    rw [hl] at cl
    clear c1
    go_enter Tryd.func10, Tryd.ntmps10
    go_wp2_with fail
    refine bodyPost_ret (results_tmp2 rfl _ _ _) rfl ⟨rfl, k0⟩
  · have dl : (S.lvl == 3) = false := beq_eq_false_iff_ne.2 hl
    by_cases h6 : c ≤ 63
    · obtain ⟨k, rfl⟩ := Int.eq_ofNat_of_zero_le u0
      have hk : k < 64 := by omega
      have k1 : (k : Int) < 64 := by omega
      have d : dwnB S (k : Int) = tb (S.C 1) k := by unfold dwnB; rw [dl, decide_eq_true h6, Int.toNat_natCast]; simp
      have hz := bt_zero (hS.C 1 (by omega)) k
      have uc := (hS.C 1 (by omega)).1
      have h6' : ¬ (63 : Int) < (k : Int) := by omega
      unfold excL excV
      rw [d, Int.toNat_natCast]
      cases ht : tb (S.C 1) k
      · rw [ht, Bool.not_false] at hz
        go_enter Tryd.func10, Tryd.ntmps10
        go_wp2_with fail
        refine bodyPost_ret (results_tmp2 rfl _ _ _) rfl ⟨rfl, k0⟩
      · rw [ht, Bool.not_true] at hz
        have u17 := (hS.C 17 (by omega)).1
        have hb := bt_tb (hS.C 17 (by omega)) k
        unfold btB at hb
        go_enter Tryd.func10, Tryd.ntmps10
        go_upto_region 1 with fail
        generalize w.alloc (.cells (rowOf 65 (stF S)) 26) = w1 at *
        generalize w.heap.size = bb at *
        go_upto_region 3 with fail
        have kd : Kept w1 w1.drew := (Only.refl _ w1).drew
        have s9 := st_kept15 h0 kd
        have k9 := k0.then kd
        clear h0 k0 kd c1 cl hz
        refine wp_region_held_drew (S := fun w2 => Kept w1.drew w2) (by kernel_rfl) (Only.refl _ _) (fun hHeld => ?_)
        generalize w1.drew = wd at *
        cases hv : S.v
        · refine wpAnyH_take (i := 0) (v := ?_) rfl (by kernel_rfl) (by kernel_rfl) (by kernel_rfl) (fun _ _ _ h => h) (Or.inl ⟨by rfl, ?_⟩) hHeld ?_
          rotate_left
          · intro w2 hSw
            go_simp
            all_goals rfl
          try simp only [Act.put, List.getElem_toArray, List.getElem_cons_zero, List.setIfInBounds_toArray, List.set_cons_zero, List.set_cons_succ]
          refine wpAnyH_take (i := 1) (v := .bool false) rfl (by kernel_rfl) (by kernel_rfl) (by kernel_rfl) (fun _ _ _ h => h) (Or.inl ⟨by rfl, ?_⟩) hHeld ?_
          · intro w2 hSw
            exact exec_load rfl rfl (run_loadVar_cell15 ((st_v (st_kept15 s9 hSw)).trans (congrArg (fun x => some (Value.bool x)) hv)) rfl Tryd.underlying4)
          try simp only [Act.put, List.getElem_toArray, List.getElem_cons_zero, List.getElem_cons_succ, List.setIfInBounds_toArray, List.set_cons_zero, List.set_cons_succ]
          refine wpAnyH_take (i := 2) (v := ?_) rfl (by kernel_rfl) (by kernel_rfl) (by kernel_rfl) (fun _ _ _ h => h) (Or.inl ⟨by rfl, ?_⟩) hHeld ?_
          rotate_left
          · intro w2 hSw
            go_simp
            all_goals rfl
          try simp only [Act.put, List.getElem_toArray, List.getElem_cons_zero, List.getElem_cons_succ, List.setIfInBounds_toArray, List.set_cons_zero, List.set_cons_succ]
          refine wpAnyH_take (i := 3) rfl (by kernel_rfl) (by kernel_rfl) (by kernel_rfl) (fun _ _ _ h => h) (Or.inr ⟨by rfl, rfl⟩) hHeld ?_
          try simp only [Act.put, List.getElem_toArray, List.getElem_cons_zero, List.getElem_cons_succ, List.setIfInBounds_toArray, List.set_cons_zero, List.set_cons_succ]
          refine wpAnyH_take (i := 4) rfl (by kernel_rfl) (by kernel_rfl) (by kernel_rfl) (fun _ _ _ h => h) (Or.inr ⟨by rfl, rfl⟩) hHeld ?_
          try simp only [Act.put, List.getElem_toArray, List.getElem_cons_zero, List.getElem_cons_succ, List.setIfInBounds_toArray, List.set_cons_zero, List.set_cons_succ]
          refine wpAnyH_take (i := 5) rfl (by kernel_rfl) (by kernel_rfl) (by kernel_rfl) (fun _ _ _ h => h) (Or.inr ⟨by rfl, rfl⟩) hHeld ?_
          try simp only [Act.put, List.getElem_toArray, List.getElem_cons_zero, List.getElem_cons_succ, List.setIfInBounds_toArray, List.set_cons_zero, List.set_cons_succ]
          refine wpAnyH_take (i := 6) rfl (by kernel_rfl) (by kernel_rfl) (by kernel_rfl) (fun _ _ _ h => h) (Or.inr ⟨by rfl, rfl⟩) hHeld ?_
          try simp only [Act.put, List.getElem_toArray, List.getElem_cons_zero, List.getElem_cons_succ, List.setIfInBounds_toArray, List.set_cons_zero, List.set_cons_succ]
          refine wpAnyH_take (i := 7) rfl (by kernel_rfl) (by kernel_rfl) (by kernel_rfl) (fun _ _ _ h => h) (Or.inr ⟨by rfl, rfl⟩) hHeld ?_
          try simp only [Act.put, List.getElem_toArray, List.getElem_cons_zero, List.getElem_cons_succ, List.setIfInBounds_toArray, List.set_cons_zero, List.set_cons_succ]
          refine wpAnyH_take (i := 8) rfl (by kernel_rfl) (by kernel_rfl) (by kernel_rfl) (fun _ _ _ h => h) (Or.inr ⟨by rfl, rfl⟩) hHeld ?_
          try simp only [Act.put, List.getElem_toArray, List.getElem_cons_zero, List.getElem_cons_succ, List.setIfInBounds_toArray, List.set_cons_zero, List.set_cons_succ]
          refine wpAnyH_take (i := 9) rfl (by kernel_rfl) (by kernel_rfl) (by kernel_rfl) (fun _ _ _ h => h) (Or.inr ⟨by rfl, rfl⟩) hHeld ?_
          try simp only [Act.put, List.getElem_toArray, List.getElem_cons_zero, List.getElem_cons_succ, List.setIfInBounds_toArray, List.set_cons_zero, List.set_cons_succ]
          refine wpAnyH_take (i := 10) (v := ?_) rfl (by kernel_rfl) (by kernel_rfl) (by kernel_rfl) (fun _ _ _ h => h) (Or.inl ⟨by rfl, ?_⟩) hHeld ?_
          rotate_left
          · intro w2 hSw
            go_simp
            all_goals rfl
          try simp only [Act.put, List.getElem_toArray, List.getElem_cons_zero, List.getElem_cons_succ, List.setIfInBounds_toArray, List.set_cons_zero, List.set_cons_succ]
          refine wpAnyH_take (i := 11) (v := ?_) rfl (by kernel_rfl) (by kernel_rfl) (by kernel_rfl) (fun _ _ _ h => h) (Or.inl ⟨by rfl, ?_⟩) hHeld ?_
          rotate_left
          · intro w2 hSw
            go_simp
            all_goals rfl
          try simp only [Act.put, List.getElem_toArray, List.getElem_cons_zero, List.getElem_cons_succ, List.setIfInBounds_toArray, List.set_cons_zero, List.set_cons_succ]
          refine wpAnyH_take (i := 12) (v := ?_) rfl (by kernel_rfl) (by kernel_rfl) (by kernel_rfl) (fun _ _ _ h => h) (Or.inl ⟨by rfl, ?_⟩) hHeld ?_
          rotate_left
          · intro w2 hSw
            go_simp
            all_goals rfl
          try simp only [Act.put, List.getElem_toArray, List.getElem_cons_zero, List.getElem_cons_succ, List.setIfInBounds_toArray, List.set_cons_zero, List.set_cons_succ]
          refine wpAnyH_done (by kernel_rfl) ?_ _
          clear hHeld s9
          go_wp2_with fail
          refine bodyPost_ret (results_tmp2 rfl _ _ _) rfl ⟨rfl, k9⟩
        · refine wpAnyH_take (i := 0) (v := ?_) rfl (by kernel_rfl) (by kernel_rfl) (by kernel_rfl) (fun _ _ _ h => h) (Or.inl ⟨by rfl, ?_⟩) hHeld ?_
          rotate_left
          · intro w2 hSw
            go_simp
            all_goals rfl
          try simp only [Act.put, List.getElem_toArray, List.getElem_cons_zero, List.setIfInBounds_toArray, List.set_cons_zero, List.set_cons_succ]
          refine wpAnyH_take (i := 1) (v := .bool true) rfl (by kernel_rfl) (by kernel_rfl) (by kernel_rfl) (fun _ _ _ h => h) (Or.inl ⟨by rfl, ?_⟩) hHeld ?_
          · intro w2 hSw
            exact exec_load rfl rfl (run_loadVar_cell15 ((st_v (st_kept15 s9 hSw)).trans (congrArg (fun x => some (Value.bool x)) hv)) rfl Tryd.underlying4)
          try simp only [Act.put, List.getElem_toArray, List.getElem_cons_zero, List.getElem_cons_succ, List.setIfInBounds_toArray, List.set_cons_zero, List.set_cons_succ]
          refine wpAnyH_take (i := 2) (v := ?_) rfl (by kernel_rfl) (by kernel_rfl) (by kernel_rfl) (fun _ _ _ h => h) (Or.inl ⟨by rfl, ?_⟩) hHeld ?_
          rotate_left
          · intro w2 hSw
            go_simp
            all_goals rfl
          try simp only [Act.put, List.getElem_toArray, List.getElem_cons_zero, List.getElem_cons_succ, List.setIfInBounds_toArray, List.set_cons_zero, List.set_cons_succ]
          refine wpAnyH_take (i := 3) (v := ?_) rfl (by kernel_rfl) (by kernel_rfl) (by kernel_rfl) (fun _ _ _ h => h) (Or.inl ⟨by rfl, ?_⟩) hHeld ?_
          rotate_left
          · intro w2 hSw
            go_simp
            all_goals rfl
          try simp only [Act.put, List.getElem_toArray, List.getElem_cons_zero, List.getElem_cons_succ, List.setIfInBounds_toArray, List.set_cons_zero, List.set_cons_succ]
          refine wpAnyH_take (i := 4) (v := ?_) rfl (by kernel_rfl) (by kernel_rfl) (by kernel_rfl) (fun _ _ _ h => h) (Or.inl ⟨by rfl, ?_⟩) hHeld ?_
          rotate_left
          · intro w2 hSw
            go_simp
            all_goals rfl
          try simp only [Act.put, List.getElem_toArray, List.getElem_cons_zero, List.getElem_cons_succ, List.setIfInBounds_toArray, List.set_cons_zero, List.set_cons_succ]
          refine wpAnyH_take (i := 5) (v := .int .u64 (S.C 17)) rfl (by kernel_rfl) (by kernel_rfl) (by kernel_rfl) (fun _ _ _ h => h) (Or.inl ⟨by rfl, ?_⟩) hHeld ?_
          · intro w2 hSw
            exact exec_load rfl rfl (run_loadVar_cell15 ((st_kept15 s9 hSw).c (i := 17) (by omega)) rfl Tryd.underlying22)
          try simp only [Act.put, List.getElem_toArray, List.getElem_cons_zero, List.getElem_cons_succ, List.setIfInBounds_toArray, List.set_cons_zero, List.set_cons_succ]
          refine wpAnyH_take (i := 6) (v := ?_) rfl (by kernel_rfl) (by kernel_rfl) (by kernel_rfl) (fun _ _ _ h => h) (Or.inl ⟨by rfl, ?_⟩) hHeld ?_
          rotate_left
          · intro w2 hSw
            go_simp
            all_goals rfl
          try simp only [Act.put, List.getElem_toArray, List.getElem_cons_zero, List.getElem_cons_succ, List.setIfInBounds_toArray, List.set_cons_zero, List.set_cons_succ]
          refine wpAnyH_take (i := 7) (v := ?_) rfl (by kernel_rfl) (by kernel_rfl) (by kernel_rfl) (fun _ _ _ h => h) (Or.inl ⟨by rfl, ?_⟩) hHeld ?_
          rotate_left
          · intro w2 hSw
            go_simp
            all_goals rfl
          try simp only [Act.put, List.getElem_toArray, List.getElem_cons_zero, List.getElem_cons_succ, List.setIfInBounds_toArray, List.set_cons_zero, List.set_cons_succ]
          refine wpAnyH_take (i := 8) (v := ?_) rfl (by kernel_rfl) (by kernel_rfl) (by kernel_rfl) (fun _ _ _ h => h) (Or.inl ⟨by rfl, ?_⟩) hHeld ?_
          rotate_left
          · intro w2 hSw
            go_simp
            all_goals rfl
          try simp only [Act.put, List.getElem_toArray, List.getElem_cons_zero, List.getElem_cons_succ, List.setIfInBounds_toArray, List.set_cons_zero, List.set_cons_succ]
          refine wpAnyH_take (i := 9) (v := ?_) rfl (by kernel_rfl) (by kernel_rfl) (by kernel_rfl) (fun _ _ _ h => h) (Or.inl ⟨by rfl, ?_⟩) hHeld ?_
          rotate_left
          · intro w2 hSw
            go_simp
            all_goals rfl
          try simp only [Act.put, List.getElem_toArray, List.getElem_cons_zero, List.getElem_cons_succ, List.setIfInBounds_toArray, List.set_cons_zero, List.set_cons_succ]
          refine wpAnyH_take (i := 10) (v := ?_) rfl (by kernel_rfl) (by kernel_rfl) (by kernel_rfl) (fun _ _ _ h => h) (Or.inl ⟨by rfl, ?_⟩) hHeld ?_
          rotate_left
          · intro w2 hSw
            go_simp
            all_goals rfl
          try simp only [Act.put, List.getElem_toArray, List.getElem_cons_zero, List.getElem_cons_succ, List.setIfInBounds_toArray, List.set_cons_zero, List.set_cons_succ]
          refine wpAnyH_take (i := 11) (v := ?_) rfl (by kernel_rfl) (by kernel_rfl) (by kernel_rfl) (fun _ _ _ h => h) (Or.inl ⟨by rfl, ?_⟩) hHeld ?_
          rotate_left
          · intro w2 hSw
            go_simp
            all_goals rfl
          try simp only [Act.put, List.getElem_toArray, List.getElem_cons_zero, List.getElem_cons_succ, List.setIfInBounds_toArray, List.set_cons_zero, List.set_cons_succ]
          refine wpAnyH_take (i := 12) (v := ?_) rfl (by kernel_rfl) (by kernel_rfl) (by kernel_rfl) (fun _ _ _ h => h) (Or.inl ⟨by rfl, ?_⟩) hHeld ?_
          rotate_left
          · intro w2 hSw
            go_simp
            all_goals rfl
          try simp only [Act.put, List.getElem_toArray, List.getElem_cons_zero, List.getElem_cons_succ, List.setIfInBounds_toArray, List.set_cons_zero, List.set_cons_succ]
          refine wpAnyH_done (by kernel_rfl) ?_ _
          clear hHeld s9
          go_wp2_with fail
          refine bodyPost_ret (results_tmp2 rfl _ _ _) rfl ⟨by rw [← hb]; rfl, k9⟩
    · have d : dwnB S c = false := by unfold dwnB; rw [decide_eq_false h6, Bool.false_and, Bool.and_false]
      have h7 : (63 : Int) < c := by omega
      unfold excL excV
      rw [d]
      clear c1
      go_enter Tryd.func10, Tryd.ntmps10
      go_wp2_with fail
      refine bodyPost_ret (results_tmp2 rfl _ _ _) rfl ⟨rfl, k0⟩
theorem info_int : (Tryd.prog.info? 3).map (fun i => (i.zero, i.size, i.bytes)) = some (some (.int .i64 0), 1, 8) := by kernel_rfl
/-- A slice of some numbers. -/
theorem wpList_ints {ops : Array Oper} {rest : List Oper} {o : Oper} {a : Act} {w : World} {Q : Exit → Act → World → Prop} (hg : o.guard = none) (l : List Nat) (n : Nat) (parts : Array (Nat × Operand)) (ho : o.op = .buildSlice 45 n parts) (hn : l.length = n) (h0 : 0 < n) (h4 : n ≤ 4)
    (hf : Instr.fill (fun i => some (i * 1, 1)) ((Array.range (n * 1)).map ((Value.int .i64 0).cells[· % (Value.int .i64 0).cells.size]!)) (parts.map fun (i, x) => (i, a.eval x)).toList = some (l.map fun k => Value.int .i64 ((k : Nat) : Int)).toArray)
    (h : ∀ b w', Kept w w' → (∀ (i : Nat) (h : i < l.length), w'.cell? ⟨b, i, none⟩ = some (.int .i64 ((l[i] : Nat) : Int))) → wpList Tryd.prog ops Q rest (a.put o.dst (.slice (some ⟨b, 0, none⟩) l.length l.length)) w') : wpList Tryd.prog ops Q (o :: rest) a w := by
  obtain ⟨i0, hi, hz0, hz1, hz2⟩ : ∃ i, Tryd.prog.info? 3 = some i ∧ i.zero = some (.int .i64 0) ∧ i.size = 1 ∧ i.bytes = 8 := by
    have h := info_int
    cases hi : Tryd.prog.info? 3 with
    | none => rw [hi] at h; cases h
    | some i =>
      rw [hi] at h
      simp only [Option.map_some, Option.some.injEq, Prod.mk.injEq] at h
      exact ⟨i, rfl, h.1, h.2.1, h.2.2⟩
  subst hn
  refine wpList_buildSlice hg 45 3 l.length parts ho (l.map fun k => Value.int .i64 ((k : Nat) : Int)).toArray i0 _ Tryd.underlying45 hi hz0 (by rw [hz1]; omega) (by rw [hz1]; omega) (by rw [hz1]; exact hf) (h w.heap.size _ ((Only.refl _ w).alloc _) fun i hl => ?_)
  have hb : (w.alloc (.cells (l.map fun k => Value.int .i64 ((k : Nat) : Int)).toArray 3)).heap[w.heap.size]? = some (.cells (l.map fun k => Value.int .i64 ((k : Nat) : Int)).toArray 3 (0, 0)) := Go.Deep.blk_alloc_new w _
  rw [World.cell?, hb]
  simp [hl]
theorem results_four {fn : Func} {t u v x : Tmp} (h : fn.results = #[.tmp t, .tmp u, .tmp v, .tmp x]) (tmps : Array Value) (P : Program) (w : World) :
    (results fn tmps).run P w = .ok (.tuple #[tmps.getD t undef, tmps.getD u undef, tmps.getD v undef, tmps.getD x undef]) w := by
  simp [results, h]
set_option maxRecDepth 10000 in
set_option maxHeartbeats 16000000 in
theorem rint15 (hS : S.Ok) (t l : Bool) :
    Calls Tryd.prog 12 #[.agg (rowOf 65 (stF S)), .bool t, .bool l] w fun e w' => e = .returned (intV (intM S t l)) ∧ Kept w w' := by
  have h0 := st_new w S
  have k0 := (Only.refl (fun _ => False) w).alloc (.cells (rowOf 65 (stF S)) 26)
  obtain ⟨on, hon⟩ : ∃ on, enI S t l = on := ⟨_, rfl⟩
  have hU : U on := by rw [← hon]; exact U_and _ _
  have hI : intM S t l = if 0 ≤ topI (mineI S on) [9, 5] ∧ mayM S = true then ⟨bits .or .u64 9223372036854775808 (topI (mineI S on) [9, 5]), 3, false, true⟩
      else if 0 ≤ topI (hostI S on) [9, 5, 10, 6] ∧ mayH S = true then ⟨bits .or .u64 9223372036854775808 (topI (hostI S on) [9, 5, 10, 6]), 1, false, true⟩
      else if 0 ≤ topI (gstI S on) [10, 6] ∧ mayG S = true then ⟨bits .or .u64 9223372036854775808 (topI (gstI S on) [10, 6] - 1), 1, true, true⟩
      else ⟨0, 0, false, false⟩ := by rw [← hon]; rfl
  generalize intM S t l = M at hI ⊢
  unfold mayM mayH mayG at hI
  have hM : U (mineI S on) := U_andNot _ _
  have hH : U (hostI S on) := U_or _ _
  have hG : U (gstI S on) := U_and _ _
  have wm := top_rng (mineI S on) [9, 5] (by decide)
  have wh := top_rng (hostI S on) [9, 5, 10, 6] (by decide)
  have wg := top_rng (gstI S on) [10, 6] (by decide)
  obtain ⟨m, em⟩ : ∃ m, topI (mineI S on) [9, 5] = m := ⟨_, rfl⟩
  obtain ⟨h, eh⟩ : ∃ h, topI (hostI S on) [9, 5, 10, 6] = h := ⟨_, rfl⟩
  obtain ⟨g, eg⟩ : ∃ g, topI (gstI S on) [10, 6] = g := ⟨_, rfl⟩
  rw [em] at wm hI
  rw [eh] at wh hI
  rw [eg] at wg hI
  go_enter Tryd.func12, Tryd.ntmps12
  go_upto_region 1 with fail
  generalize w.alloc (.cells (rowOf 65 (stF S)) 26) = w1 at *
  generalize w.heap.size = bb at *
  go_upto_region 2 with (first | (refine wpList_load_is (by rfl) 26 _ rfl rfl h0 _ Tryd.underlying26 rfl st_size ?_) | (go_at_call 14; refine (renab15 t l).mono ?_; rintro r w2 ⟨rfl, k2⟩; rw [hon]))
  have h2 := st_kept15 h0 k2
  have kk := k0.then k2
  clear h0 k0 k2 hon
  have c2 := h2.c (i := 2) (by omega)
  have c18 := h2.c (i := 18) (by omega)
  go_upto_region 5 with fail
  clear c2 c18
  go_upto_region 6 with (first | (refine wpList_ints rfl [9, 5] 2 _ rfl rfl (by decide) (by decide) (by kernel_rfl) ?_; intro ib3 w3 k3 e3; have h3 := st_kept15 h2 k3; have cl3 := st_lvl h3; have cv3 := st_v h3) | (go_at_call 19; refine (rtop15 (x := mineI S on) hM _ [9, 5] (by decide) (by decide) e3).mono ?_; rintro r wy ⟨rfl, hwy⟩; rw [hwy, em]; clear hwy wy))
  have kk3 := kk.then k3
  clear k3 e3 kk h2
  by_cases hl : S.lvl = 3
  · have e3 : (S.lvl == 3) = true := by rw [hl]; rfl
    have e0 : (S.lvl == 0) = false := by rw [hl]; rfl
    by_cases sm : m < 0
    · have nm : ¬ 0 ≤ m := by omega
      rw [if_neg (fun z => nm z.1)] at hI
      have qm : m < 0 := by omega
      have rm : ¬ m ≥ 0 := by omega
      by_cases sh : h < 0
      · have nh : ¬ 0 ≤ h := by omega
        rw [if_neg (fun z => nh z.1)] at hI
        have qh : h < 0 := by omega
        have rh : ¬ h ≥ 0 := by omega
        by_cases sg : g < 0
        · have ng : ¬ 0 ≤ g := by omega
          rw [if_neg (fun z => ng z.1)] at hI
          have qg : g < 0 := by omega
          have rg : ¬ g ≥ 0 := by omega
          have hJ : Hid (M = _) := hI
          clear hI
          rw [hl] at cl3
          go_upto_region 8 with fail
          go_upto_region 9 with (first | (refine wpList_ints rfl [9, 5, 10, 6] 4 _ rfl rfl (by decide) (by decide) (by kernel_rfl) ?_; intro ib5 w5 k5 e5; have h5 := st_kept15 h3 k5; have cl5 := st_lvl h5; have cv5 := st_v h5; rw [hl] at cl5) | (go_at_call 19; refine (rtop15 (x := hostI S on) hH _ [9, 5, 10, 6] (by decide) (by decide) e5).mono ?_; rintro r wy ⟨rfl, hwy⟩; rw [hwy, eh]; clear hwy wy))
          go_upto_region 11 with fail
          go_upto_region 12 with (first | (refine wpList_ints rfl [10, 6] 2 _ rfl rfl (by decide) (by decide) (by kernel_rfl) ?_; intro ib7 w7 k7 e7; have h7 := st_kept15 h5 k7; have cl7 := st_lvl h7; have cv7 := st_v h7; rw [hl] at cl7) | (go_at_call 19; refine (rtop15 (x := gstI S on) hG _ [10, 6] (by decide) (by decide) e7).mono ?_; rintro r wy ⟨rfl, hwy⟩; rw [hwy, eg]; clear hwy wy))
          go_wp2_with fail
          refine bodyPost_ret (results_four rfl _ _ _) rfl ⟨by rw [show M = ⟨0, 0, false, false⟩ from hJ]; rfl, ((kk3.then k5).then k7)⟩
        · have ng : 0 ≤ g := by omega
          have rg : g ≥ 0 := by omega
          cases hv : S.v
          · rw [if_neg (fun z => by have z2 := z.2; simp only [hv, Bool.false_and] at z2; exact Bool.noConfusion z2)] at hI
            have hJ : Hid (M = _) := hI
            clear hI
            rw [hl] at cl3
            rw [hv] at cv3
            go_upto_region 8 with fail
            go_upto_region 9 with (first | (refine wpList_ints rfl [9, 5, 10, 6] 4 _ rfl rfl (by decide) (by decide) (by kernel_rfl) ?_; intro ib5 w5 k5 e5; have h5 := st_kept15 h3 k5; have cl5 := st_lvl h5; have cv5 := st_v h5; rw [hl] at cl5; rw [hv] at cv5) | (go_at_call 19; refine (rtop15 (x := hostI S on) hH _ [9, 5, 10, 6] (by decide) (by decide) e5).mono ?_; rintro r wy ⟨rfl, hwy⟩; rw [hwy, eh]; clear hwy wy))
            go_upto_region 11 with fail
            go_upto_region 12 with (first | (refine wpList_ints rfl [10, 6] 2 _ rfl rfl (by decide) (by decide) (by kernel_rfl) ?_; intro ib7 w7 k7 e7; have h7 := st_kept15 h5 k7; have cl7 := st_lvl h7; have cv7 := st_v h7; rw [hl] at cl7; rw [hv] at cv7) | (go_at_call 19; refine (rtop15 (x := gstI S on) hG _ [10, 6] (by decide) (by decide) e7).mono ?_; rintro r wy ⟨rfl, hwy⟩; rw [hwy, eg]; clear hwy wy))
            go_wp2_with fail
            refine bodyPost_ret (results_four rfl _ _ _) rfl ⟨by rw [show M = ⟨0, 0, false, false⟩ from hJ]; rfl, ((kk3.then k5).then k7)⟩
          · cases hb22 : tb (S.C 22) 1
            · rw [if_neg (fun z => by have z2 := z.2; simp only [hv, e0, hb22, Bool.or_self, Bool.and_false] at z2; exact Bool.noConfusion z2)] at hI
              have hJ : Hid (M = _) := hI
              clear hI
              rw [hl] at cl3
              rw [hv] at cv3
              go_upto_region 8 with fail
              go_upto_region 9 with (first | (refine wpList_ints rfl [9, 5, 10, 6] 4 _ rfl rfl (by decide) (by decide) (by kernel_rfl) ?_; intro ib5 w5 k5 e5; have h5 := st_kept15 h3 k5; have cl5 := st_lvl h5; have cv5 := st_v h5; rw [hl] at cl5; rw [hv] at cv5) | (go_at_call 19; refine (rtop15 (x := hostI S on) hH _ [9, 5, 10, 6] (by decide) (by decide) e5).mono ?_; rintro r wy ⟨rfl, hwy⟩; rw [hwy, eh]; clear hwy wy))
              go_upto_region 11 with fail
              go_upto_region 12 with (first | (refine wpList_ints rfl [10, 6] 2 _ rfl rfl (by decide) (by decide) (by kernel_rfl) ?_; intro ib7 w7 k7 e7; have h7 := st_kept15 h5 k7; have cl7 := st_lvl h7; have cv7 := st_v h7; rw [hl] at cl7; rw [hv] at cv7) | (go_at_call 19; refine (rtop15 (x := gstI S on) hG _ [10, 6] (by decide) (by decide) e7).mono ?_; rintro r wy ⟨rfl, hwy⟩; rw [hwy, eg]; clear hwy wy))
              go_wp2_with (first | (refine wpList_load_is (by rfl) 26 _ rfl rfl h7 _ Tryd.underlying26 rfl st_size ?_))
              refine (rbit15 hS (i := 22) (k := 1) (by omega) (by omega)).mono ?_
              rintro r w8 ⟨rfl, k8⟩
              rw [hb22]
              go_wp2_with fail
              refine bodyPost_ret (results_four rfl _ _ _) rfl ⟨by rw [show M = ⟨0, 0, false, false⟩ from hJ]; rfl, (((kk3.then k5).then k7).then k8)⟩
            · rw [if_pos ⟨ng, by simp only [hv, e0, hb22, Bool.or_true, Bool.and_self]⟩] at hI
              have hJ : Hid (M = _) := hI
              clear hI
              rw [hl] at cl3
              rw [hv] at cv3
              go_upto_region 8 with fail
              go_upto_region 9 with (first | (refine wpList_ints rfl [9, 5, 10, 6] 4 _ rfl rfl (by decide) (by decide) (by kernel_rfl) ?_; intro ib5 w5 k5 e5; have h5 := st_kept15 h3 k5; have cl5 := st_lvl h5; have cv5 := st_v h5; rw [hl] at cl5; rw [hv] at cv5) | (go_at_call 19; refine (rtop15 (x := hostI S on) hH _ [9, 5, 10, 6] (by decide) (by decide) e5).mono ?_; rintro r wy ⟨rfl, hwy⟩; rw [hwy, eh]; clear hwy wy))
              go_upto_region 11 with fail
              go_upto_region 12 with (first | (refine wpList_ints rfl [10, 6] 2 _ rfl rfl (by decide) (by decide) (by kernel_rfl) ?_; intro ib7 w7 k7 e7; have h7 := st_kept15 h5 k7; have cl7 := st_lvl h7; have cv7 := st_v h7; rw [hl] at cl7; rw [hv] at cv7) | (go_at_call 19; refine (rtop15 (x := gstI S on) hG _ [10, 6] (by decide) (by decide) e7).mono ?_; rintro r wy ⟨rfl, hwy⟩; rw [hwy, eg]; clear hwy wy))
              go_wp2_with (first | (refine wpList_load_is (by rfl) 26 _ rfl rfl h7 _ Tryd.underlying26 rfl st_size ?_))
              refine (rbit15 hS (i := 22) (k := 1) (by omega) (by omega)).mono ?_
              rintro r w8 ⟨rfl, k8⟩
              rw [hb22]
              go_wp2_with fail
              refine bodyPost_ret (results_four rfl _ _ _) rfl ⟨by rw [show M = ⟨bits .or .u64 9223372036854775808 (g - 1), 1, true, true⟩ from hJ]; rfl, (((kk3.then k5).then k7).then k8)⟩
      · have nh : 0 ≤ h := by omega
        have rh : h ≥ 0 := by omega
        rw [if_neg (fun z => by have z2 := z.2; simp only [e3, Bool.not_true, Bool.false_and] at z2; exact Bool.noConfusion z2)] at hI
        by_cases sg : g < 0
        · have ng : ¬ 0 ≤ g := by omega
          rw [if_neg (fun z => ng z.1)] at hI
          have qg : g < 0 := by omega
          have rg : ¬ g ≥ 0 := by omega
          have hJ : Hid (M = _) := hI
          clear hI
          rw [hl] at cl3
          go_upto_region 8 with fail
          go_upto_region 9 with (first | (refine wpList_ints rfl [9, 5, 10, 6] 4 _ rfl rfl (by decide) (by decide) (by kernel_rfl) ?_; intro ib5 w5 k5 e5; have h5 := st_kept15 h3 k5; have cl5 := st_lvl h5; have cv5 := st_v h5; rw [hl] at cl5) | (go_at_call 19; refine (rtop15 (x := hostI S on) hH _ [9, 5, 10, 6] (by decide) (by decide) e5).mono ?_; rintro r wy ⟨rfl, hwy⟩; rw [hwy, eh]; clear hwy wy))
          go_upto_region 11 with fail
          go_upto_region 12 with (first | (refine wpList_ints rfl [10, 6] 2 _ rfl rfl (by decide) (by decide) (by kernel_rfl) ?_; intro ib7 w7 k7 e7; have h7 := st_kept15 h5 k7; have cl7 := st_lvl h7; have cv7 := st_v h7; rw [hl] at cl7) | (go_at_call 19; refine (rtop15 (x := gstI S on) hG _ [10, 6] (by decide) (by decide) e7).mono ?_; rintro r wy ⟨rfl, hwy⟩; rw [hwy, eg]; clear hwy wy))
          go_wp2_with fail
          refine bodyPost_ret (results_four rfl _ _ _) rfl ⟨by rw [show M = ⟨0, 0, false, false⟩ from hJ]; rfl, ((kk3.then k5).then k7)⟩
        · have ng : 0 ≤ g := by omega
          have rg : g ≥ 0 := by omega
          cases hv : S.v
          · rw [if_neg (fun z => by have z2 := z.2; simp only [hv, Bool.false_and] at z2; exact Bool.noConfusion z2)] at hI
            have hJ : Hid (M = _) := hI
            clear hI
            rw [hl] at cl3
            rw [hv] at cv3
            go_upto_region 8 with fail
            go_upto_region 9 with (first | (refine wpList_ints rfl [9, 5, 10, 6] 4 _ rfl rfl (by decide) (by decide) (by kernel_rfl) ?_; intro ib5 w5 k5 e5; have h5 := st_kept15 h3 k5; have cl5 := st_lvl h5; have cv5 := st_v h5; rw [hl] at cl5; rw [hv] at cv5) | (go_at_call 19; refine (rtop15 (x := hostI S on) hH _ [9, 5, 10, 6] (by decide) (by decide) e5).mono ?_; rintro r wy ⟨rfl, hwy⟩; rw [hwy, eh]; clear hwy wy))
            go_upto_region 11 with fail
            go_upto_region 12 with (first | (refine wpList_ints rfl [10, 6] 2 _ rfl rfl (by decide) (by decide) (by kernel_rfl) ?_; intro ib7 w7 k7 e7; have h7 := st_kept15 h5 k7; have cl7 := st_lvl h7; have cv7 := st_v h7; rw [hl] at cl7; rw [hv] at cv7) | (go_at_call 19; refine (rtop15 (x := gstI S on) hG _ [10, 6] (by decide) (by decide) e7).mono ?_; rintro r wy ⟨rfl, hwy⟩; rw [hwy, eg]; clear hwy wy))
            go_wp2_with fail
            refine bodyPost_ret (results_four rfl _ _ _) rfl ⟨by rw [show M = ⟨0, 0, false, false⟩ from hJ]; rfl, ((kk3.then k5).then k7)⟩
          · cases hb22 : tb (S.C 22) 1
            · rw [if_neg (fun z => by have z2 := z.2; simp only [hv, e0, hb22, Bool.or_self, Bool.and_false] at z2; exact Bool.noConfusion z2)] at hI
              have hJ : Hid (M = _) := hI
              clear hI
              rw [hl] at cl3
              rw [hv] at cv3
              go_upto_region 8 with fail
              go_upto_region 9 with (first | (refine wpList_ints rfl [9, 5, 10, 6] 4 _ rfl rfl (by decide) (by decide) (by kernel_rfl) ?_; intro ib5 w5 k5 e5; have h5 := st_kept15 h3 k5; have cl5 := st_lvl h5; have cv5 := st_v h5; rw [hl] at cl5; rw [hv] at cv5) | (go_at_call 19; refine (rtop15 (x := hostI S on) hH _ [9, 5, 10, 6] (by decide) (by decide) e5).mono ?_; rintro r wy ⟨rfl, hwy⟩; rw [hwy, eh]; clear hwy wy))
              go_upto_region 11 with fail
              go_upto_region 12 with (first | (refine wpList_ints rfl [10, 6] 2 _ rfl rfl (by decide) (by decide) (by kernel_rfl) ?_; intro ib7 w7 k7 e7; have h7 := st_kept15 h5 k7; have cl7 := st_lvl h7; have cv7 := st_v h7; rw [hl] at cl7; rw [hv] at cv7) | (go_at_call 19; refine (rtop15 (x := gstI S on) hG _ [10, 6] (by decide) (by decide) e7).mono ?_; rintro r wy ⟨rfl, hwy⟩; rw [hwy, eg]; clear hwy wy))
              go_wp2_with (first | (refine wpList_load_is (by rfl) 26 _ rfl rfl h7 _ Tryd.underlying26 rfl st_size ?_))
              refine (rbit15 hS (i := 22) (k := 1) (by omega) (by omega)).mono ?_
              rintro r w8 ⟨rfl, k8⟩
              rw [hb22]
              go_wp2_with fail
              refine bodyPost_ret (results_four rfl _ _ _) rfl ⟨by rw [show M = ⟨0, 0, false, false⟩ from hJ]; rfl, (((kk3.then k5).then k7).then k8)⟩
            · rw [if_pos ⟨ng, by simp only [hv, e0, hb22, Bool.or_true, Bool.and_self]⟩] at hI
              have hJ : Hid (M = _) := hI
              clear hI
              rw [hl] at cl3
              rw [hv] at cv3
              go_upto_region 8 with fail
              go_upto_region 9 with (first | (refine wpList_ints rfl [9, 5, 10, 6] 4 _ rfl rfl (by decide) (by decide) (by kernel_rfl) ?_; intro ib5 w5 k5 e5; have h5 := st_kept15 h3 k5; have cl5 := st_lvl h5; have cv5 := st_v h5; rw [hl] at cl5; rw [hv] at cv5) | (go_at_call 19; refine (rtop15 (x := hostI S on) hH _ [9, 5, 10, 6] (by decide) (by decide) e5).mono ?_; rintro r wy ⟨rfl, hwy⟩; rw [hwy, eh]; clear hwy wy))
              go_upto_region 11 with fail
              go_upto_region 12 with (first | (refine wpList_ints rfl [10, 6] 2 _ rfl rfl (by decide) (by decide) (by kernel_rfl) ?_; intro ib7 w7 k7 e7; have h7 := st_kept15 h5 k7; have cl7 := st_lvl h7; have cv7 := st_v h7; rw [hl] at cl7; rw [hv] at cv7) | (go_at_call 19; refine (rtop15 (x := gstI S on) hG _ [10, 6] (by decide) (by decide) e7).mono ?_; rintro r wy ⟨rfl, hwy⟩; rw [hwy, eg]; clear hwy wy))
              go_wp2_with (first | (refine wpList_load_is (by rfl) 26 _ rfl rfl h7 _ Tryd.underlying26 rfl st_size ?_))
              refine (rbit15 hS (i := 22) (k := 1) (by omega) (by omega)).mono ?_
              rintro r w8 ⟨rfl, k8⟩
              rw [hb22]
              go_wp2_with fail
              refine bodyPost_ret (results_four rfl _ _ _) rfl ⟨by rw [show M = ⟨bits .or .u64 9223372036854775808 (g - 1), 1, true, true⟩ from hJ]; rfl, (((kk3.then k5).then k7).then k8)⟩
    · have nm : 0 ≤ m := by omega
      have rm : m ≥ 0 := by omega
      cases hb3 : tb (S.C 0) 3
      · rw [if_neg (fun z => by have z2 := z.2; simp only [e3, hb3, Bool.not_true, Bool.or_self] at z2; exact Bool.noConfusion z2)] at hI
        by_cases sh : h < 0
        · have nh : ¬ 0 ≤ h := by omega
          rw [if_neg (fun z => nh z.1)] at hI
          have qh : h < 0 := by omega
          have rh : ¬ h ≥ 0 := by omega
          by_cases sg : g < 0
          · have ng : ¬ 0 ≤ g := by omega
            rw [if_neg (fun z => ng z.1)] at hI
            have qg : g < 0 := by omega
            have rg : ¬ g ≥ 0 := by omega
            have hJ : Hid (M = _) := hI
            clear hI
            rw [hl] at cl3
            go_wp2_with (first | (refine wpList_load_is (by rfl) 26 _ rfl rfl h3 _ Tryd.underlying26 rfl st_size ?_))
            refine (rbit15 hS (i := 0) (k := 3) (by omega) (by omega)).mono ?_
            rintro r w4 ⟨rfl, k4⟩
            rw [hb3]
            have h4 := st_kept15 h3 k4
            have cl4 := st_lvl h4
            have cv4 := st_v h4
            rw [hl] at cl4
            go_upto_region 8 with fail
            go_upto_region 9 with (first | (refine wpList_ints rfl [9, 5, 10, 6] 4 _ rfl rfl (by decide) (by decide) (by kernel_rfl) ?_; intro ib5 w5 k5 e5; have h5 := st_kept15 h4 k5; have cl5 := st_lvl h5; have cv5 := st_v h5; rw [hl] at cl5) | (go_at_call 19; refine (rtop15 (x := hostI S on) hH _ [9, 5, 10, 6] (by decide) (by decide) e5).mono ?_; rintro r wy ⟨rfl, hwy⟩; rw [hwy, eh]; clear hwy wy))
            go_upto_region 11 with fail
            go_upto_region 12 with (first | (refine wpList_ints rfl [10, 6] 2 _ rfl rfl (by decide) (by decide) (by kernel_rfl) ?_; intro ib7 w7 k7 e7; have h7 := st_kept15 h5 k7; have cl7 := st_lvl h7; have cv7 := st_v h7; rw [hl] at cl7) | (go_at_call 19; refine (rtop15 (x := gstI S on) hG _ [10, 6] (by decide) (by decide) e7).mono ?_; rintro r wy ⟨rfl, hwy⟩; rw [hwy, eg]; clear hwy wy))
            go_wp2_with fail
            refine bodyPost_ret (results_four rfl _ _ _) rfl ⟨by rw [show M = ⟨0, 0, false, false⟩ from hJ]; rfl, (((kk3.then k4).then k5).then k7)⟩
          · have ng : 0 ≤ g := by omega
            have rg : g ≥ 0 := by omega
            cases hv : S.v
            · rw [if_neg (fun z => by have z2 := z.2; simp only [hv, Bool.false_and] at z2; exact Bool.noConfusion z2)] at hI
              have hJ : Hid (M = _) := hI
              clear hI
              rw [hl] at cl3
              rw [hv] at cv3
              go_wp2_with (first | (refine wpList_load_is (by rfl) 26 _ rfl rfl h3 _ Tryd.underlying26 rfl st_size ?_))
              refine (rbit15 hS (i := 0) (k := 3) (by omega) (by omega)).mono ?_
              rintro r w4 ⟨rfl, k4⟩
              rw [hb3]
              have h4 := st_kept15 h3 k4
              have cl4 := st_lvl h4
              have cv4 := st_v h4
              rw [hl] at cl4
              rw [hv] at cv4
              go_upto_region 8 with fail
              go_upto_region 9 with (first | (refine wpList_ints rfl [9, 5, 10, 6] 4 _ rfl rfl (by decide) (by decide) (by kernel_rfl) ?_; intro ib5 w5 k5 e5; have h5 := st_kept15 h4 k5; have cl5 := st_lvl h5; have cv5 := st_v h5; rw [hl] at cl5; rw [hv] at cv5) | (go_at_call 19; refine (rtop15 (x := hostI S on) hH _ [9, 5, 10, 6] (by decide) (by decide) e5).mono ?_; rintro r wy ⟨rfl, hwy⟩; rw [hwy, eh]; clear hwy wy))
              go_upto_region 11 with fail
              go_upto_region 12 with (first | (refine wpList_ints rfl [10, 6] 2 _ rfl rfl (by decide) (by decide) (by kernel_rfl) ?_; intro ib7 w7 k7 e7; have h7 := st_kept15 h5 k7; have cl7 := st_lvl h7; have cv7 := st_v h7; rw [hl] at cl7; rw [hv] at cv7) | (go_at_call 19; refine (rtop15 (x := gstI S on) hG _ [10, 6] (by decide) (by decide) e7).mono ?_; rintro r wy ⟨rfl, hwy⟩; rw [hwy, eg]; clear hwy wy))
              go_wp2_with fail
              refine bodyPost_ret (results_four rfl _ _ _) rfl ⟨by rw [show M = ⟨0, 0, false, false⟩ from hJ]; rfl, (((kk3.then k4).then k5).then k7)⟩
            · cases hb22 : tb (S.C 22) 1
              · rw [if_neg (fun z => by have z2 := z.2; simp only [hv, e0, hb22, Bool.or_self, Bool.and_false] at z2; exact Bool.noConfusion z2)] at hI
                have hJ : Hid (M = _) := hI
                clear hI
                rw [hl] at cl3
                rw [hv] at cv3
                go_wp2_with (first | (refine wpList_load_is (by rfl) 26 _ rfl rfl h3 _ Tryd.underlying26 rfl st_size ?_))
                refine (rbit15 hS (i := 0) (k := 3) (by omega) (by omega)).mono ?_
                rintro r w4 ⟨rfl, k4⟩
                rw [hb3]
                have h4 := st_kept15 h3 k4
                have cl4 := st_lvl h4
                have cv4 := st_v h4
                rw [hl] at cl4
                rw [hv] at cv4
                go_upto_region 8 with fail
                go_upto_region 9 with (first | (refine wpList_ints rfl [9, 5, 10, 6] 4 _ rfl rfl (by decide) (by decide) (by kernel_rfl) ?_; intro ib5 w5 k5 e5; have h5 := st_kept15 h4 k5; have cl5 := st_lvl h5; have cv5 := st_v h5; rw [hl] at cl5; rw [hv] at cv5) | (go_at_call 19; refine (rtop15 (x := hostI S on) hH _ [9, 5, 10, 6] (by decide) (by decide) e5).mono ?_; rintro r wy ⟨rfl, hwy⟩; rw [hwy, eh]; clear hwy wy))
                go_upto_region 11 with fail
                go_upto_region 12 with (first | (refine wpList_ints rfl [10, 6] 2 _ rfl rfl (by decide) (by decide) (by kernel_rfl) ?_; intro ib7 w7 k7 e7; have h7 := st_kept15 h5 k7; have cl7 := st_lvl h7; have cv7 := st_v h7; rw [hl] at cl7; rw [hv] at cv7) | (go_at_call 19; refine (rtop15 (x := gstI S on) hG _ [10, 6] (by decide) (by decide) e7).mono ?_; rintro r wy ⟨rfl, hwy⟩; rw [hwy, eg]; clear hwy wy))
                go_wp2_with (first | (refine wpList_load_is (by rfl) 26 _ rfl rfl h7 _ Tryd.underlying26 rfl st_size ?_))
                refine (rbit15 hS (i := 22) (k := 1) (by omega) (by omega)).mono ?_
                rintro r w8 ⟨rfl, k8⟩
                rw [hb22]
                go_wp2_with fail
                refine bodyPost_ret (results_four rfl _ _ _) rfl ⟨by rw [show M = ⟨0, 0, false, false⟩ from hJ]; rfl, ((((kk3.then k4).then k5).then k7).then k8)⟩
              · rw [if_pos ⟨ng, by simp only [hv, e0, hb22, Bool.or_true, Bool.and_self]⟩] at hI
                have hJ : Hid (M = _) := hI
                clear hI
                rw [hl] at cl3
                rw [hv] at cv3
                go_wp2_with (first | (refine wpList_load_is (by rfl) 26 _ rfl rfl h3 _ Tryd.underlying26 rfl st_size ?_))
                refine (rbit15 hS (i := 0) (k := 3) (by omega) (by omega)).mono ?_
                rintro r w4 ⟨rfl, k4⟩
                rw [hb3]
                have h4 := st_kept15 h3 k4
                have cl4 := st_lvl h4
                have cv4 := st_v h4
                rw [hl] at cl4
                rw [hv] at cv4
                go_upto_region 8 with fail
                go_upto_region 9 with (first | (refine wpList_ints rfl [9, 5, 10, 6] 4 _ rfl rfl (by decide) (by decide) (by kernel_rfl) ?_; intro ib5 w5 k5 e5; have h5 := st_kept15 h4 k5; have cl5 := st_lvl h5; have cv5 := st_v h5; rw [hl] at cl5; rw [hv] at cv5) | (go_at_call 19; refine (rtop15 (x := hostI S on) hH _ [9, 5, 10, 6] (by decide) (by decide) e5).mono ?_; rintro r wy ⟨rfl, hwy⟩; rw [hwy, eh]; clear hwy wy))
                go_upto_region 11 with fail
                go_upto_region 12 with (first | (refine wpList_ints rfl [10, 6] 2 _ rfl rfl (by decide) (by decide) (by kernel_rfl) ?_; intro ib7 w7 k7 e7; have h7 := st_kept15 h5 k7; have cl7 := st_lvl h7; have cv7 := st_v h7; rw [hl] at cl7; rw [hv] at cv7) | (go_at_call 19; refine (rtop15 (x := gstI S on) hG _ [10, 6] (by decide) (by decide) e7).mono ?_; rintro r wy ⟨rfl, hwy⟩; rw [hwy, eg]; clear hwy wy))
                go_wp2_with (first | (refine wpList_load_is (by rfl) 26 _ rfl rfl h7 _ Tryd.underlying26 rfl st_size ?_))
                refine (rbit15 hS (i := 22) (k := 1) (by omega) (by omega)).mono ?_
                rintro r w8 ⟨rfl, k8⟩
                rw [hb22]
                go_wp2_with fail
                refine bodyPost_ret (results_four rfl _ _ _) rfl ⟨by rw [show M = ⟨bits .or .u64 9223372036854775808 (g - 1), 1, true, true⟩ from hJ]; rfl, ((((kk3.then k4).then k5).then k7).then k8)⟩
        · have nh : 0 ≤ h := by omega
          have rh : h ≥ 0 := by omega
          rw [if_neg (fun z => by have z2 := z.2; simp only [e3, Bool.not_true, Bool.false_and] at z2; exact Bool.noConfusion z2)] at hI
          by_cases sg : g < 0
          · have ng : ¬ 0 ≤ g := by omega
            rw [if_neg (fun z => ng z.1)] at hI
            have qg : g < 0 := by omega
            have rg : ¬ g ≥ 0 := by omega
            have hJ : Hid (M = _) := hI
            clear hI
            rw [hl] at cl3
            go_wp2_with (first | (refine wpList_load_is (by rfl) 26 _ rfl rfl h3 _ Tryd.underlying26 rfl st_size ?_))
            refine (rbit15 hS (i := 0) (k := 3) (by omega) (by omega)).mono ?_
            rintro r w4 ⟨rfl, k4⟩
            rw [hb3]
            have h4 := st_kept15 h3 k4
            have cl4 := st_lvl h4
            have cv4 := st_v h4
            rw [hl] at cl4
            go_upto_region 8 with fail
            go_upto_region 9 with (first | (refine wpList_ints rfl [9, 5, 10, 6] 4 _ rfl rfl (by decide) (by decide) (by kernel_rfl) ?_; intro ib5 w5 k5 e5; have h5 := st_kept15 h4 k5; have cl5 := st_lvl h5; have cv5 := st_v h5; rw [hl] at cl5) | (go_at_call 19; refine (rtop15 (x := hostI S on) hH _ [9, 5, 10, 6] (by decide) (by decide) e5).mono ?_; rintro r wy ⟨rfl, hwy⟩; rw [hwy, eh]; clear hwy wy))
            go_upto_region 11 with fail
            go_upto_region 12 with (first | (refine wpList_ints rfl [10, 6] 2 _ rfl rfl (by decide) (by decide) (by kernel_rfl) ?_; intro ib7 w7 k7 e7; have h7 := st_kept15 h5 k7; have cl7 := st_lvl h7; have cv7 := st_v h7; rw [hl] at cl7) | (go_at_call 19; refine (rtop15 (x := gstI S on) hG _ [10, 6] (by decide) (by decide) e7).mono ?_; rintro r wy ⟨rfl, hwy⟩; rw [hwy, eg]; clear hwy wy))
            go_wp2_with fail
            refine bodyPost_ret (results_four rfl _ _ _) rfl ⟨by rw [show M = ⟨0, 0, false, false⟩ from hJ]; rfl, (((kk3.then k4).then k5).then k7)⟩
          · have ng : 0 ≤ g := by omega
            have rg : g ≥ 0 := by omega
            cases hv : S.v
            · rw [if_neg (fun z => by have z2 := z.2; simp only [hv, Bool.false_and] at z2; exact Bool.noConfusion z2)] at hI
              have hJ : Hid (M = _) := hI
              clear hI
              rw [hl] at cl3
              rw [hv] at cv3
              go_wp2_with (first | (refine wpList_load_is (by rfl) 26 _ rfl rfl h3 _ Tryd.underlying26 rfl st_size ?_))
              refine (rbit15 hS (i := 0) (k := 3) (by omega) (by omega)).mono ?_
              rintro r w4 ⟨rfl, k4⟩
              rw [hb3]
              have h4 := st_kept15 h3 k4
              have cl4 := st_lvl h4
              have cv4 := st_v h4
              rw [hl] at cl4
              rw [hv] at cv4
              go_upto_region 8 with fail
              go_upto_region 9 with (first | (refine wpList_ints rfl [9, 5, 10, 6] 4 _ rfl rfl (by decide) (by decide) (by kernel_rfl) ?_; intro ib5 w5 k5 e5; have h5 := st_kept15 h4 k5; have cl5 := st_lvl h5; have cv5 := st_v h5; rw [hl] at cl5; rw [hv] at cv5) | (go_at_call 19; refine (rtop15 (x := hostI S on) hH _ [9, 5, 10, 6] (by decide) (by decide) e5).mono ?_; rintro r wy ⟨rfl, hwy⟩; rw [hwy, eh]; clear hwy wy))
              go_upto_region 11 with fail
              go_upto_region 12 with (first | (refine wpList_ints rfl [10, 6] 2 _ rfl rfl (by decide) (by decide) (by kernel_rfl) ?_; intro ib7 w7 k7 e7; have h7 := st_kept15 h5 k7; have cl7 := st_lvl h7; have cv7 := st_v h7; rw [hl] at cl7; rw [hv] at cv7) | (go_at_call 19; refine (rtop15 (x := gstI S on) hG _ [10, 6] (by decide) (by decide) e7).mono ?_; rintro r wy ⟨rfl, hwy⟩; rw [hwy, eg]; clear hwy wy))
              go_wp2_with fail
              refine bodyPost_ret (results_four rfl _ _ _) rfl ⟨by rw [show M = ⟨0, 0, false, false⟩ from hJ]; rfl, (((kk3.then k4).then k5).then k7)⟩
            · cases hb22 : tb (S.C 22) 1
              · rw [if_neg (fun z => by have z2 := z.2; simp only [hv, e0, hb22, Bool.or_self, Bool.and_false] at z2; exact Bool.noConfusion z2)] at hI
                have hJ : Hid (M = _) := hI
                clear hI
                rw [hl] at cl3
                rw [hv] at cv3
                go_wp2_with (first | (refine wpList_load_is (by rfl) 26 _ rfl rfl h3 _ Tryd.underlying26 rfl st_size ?_))
                refine (rbit15 hS (i := 0) (k := 3) (by omega) (by omega)).mono ?_
                rintro r w4 ⟨rfl, k4⟩
                rw [hb3]
                have h4 := st_kept15 h3 k4
                have cl4 := st_lvl h4
                have cv4 := st_v h4
                rw [hl] at cl4
                rw [hv] at cv4
                go_upto_region 8 with fail
                go_upto_region 9 with (first | (refine wpList_ints rfl [9, 5, 10, 6] 4 _ rfl rfl (by decide) (by decide) (by kernel_rfl) ?_; intro ib5 w5 k5 e5; have h5 := st_kept15 h4 k5; have cl5 := st_lvl h5; have cv5 := st_v h5; rw [hl] at cl5; rw [hv] at cv5) | (go_at_call 19; refine (rtop15 (x := hostI S on) hH _ [9, 5, 10, 6] (by decide) (by decide) e5).mono ?_; rintro r wy ⟨rfl, hwy⟩; rw [hwy, eh]; clear hwy wy))
                go_upto_region 11 with fail
                go_upto_region 12 with (first | (refine wpList_ints rfl [10, 6] 2 _ rfl rfl (by decide) (by decide) (by kernel_rfl) ?_; intro ib7 w7 k7 e7; have h7 := st_kept15 h5 k7; have cl7 := st_lvl h7; have cv7 := st_v h7; rw [hl] at cl7; rw [hv] at cv7) | (go_at_call 19; refine (rtop15 (x := gstI S on) hG _ [10, 6] (by decide) (by decide) e7).mono ?_; rintro r wy ⟨rfl, hwy⟩; rw [hwy, eg]; clear hwy wy))
                go_wp2_with (first | (refine wpList_load_is (by rfl) 26 _ rfl rfl h7 _ Tryd.underlying26 rfl st_size ?_))
                refine (rbit15 hS (i := 22) (k := 1) (by omega) (by omega)).mono ?_
                rintro r w8 ⟨rfl, k8⟩
                rw [hb22]
                go_wp2_with fail
                refine bodyPost_ret (results_four rfl _ _ _) rfl ⟨by rw [show M = ⟨0, 0, false, false⟩ from hJ]; rfl, ((((kk3.then k4).then k5).then k7).then k8)⟩
              · rw [if_pos ⟨ng, by simp only [hv, e0, hb22, Bool.or_true, Bool.and_self]⟩] at hI
                have hJ : Hid (M = _) := hI
                clear hI
                rw [hl] at cl3
                rw [hv] at cv3
                go_wp2_with (first | (refine wpList_load_is (by rfl) 26 _ rfl rfl h3 _ Tryd.underlying26 rfl st_size ?_))
                refine (rbit15 hS (i := 0) (k := 3) (by omega) (by omega)).mono ?_
                rintro r w4 ⟨rfl, k4⟩
                rw [hb3]
                have h4 := st_kept15 h3 k4
                have cl4 := st_lvl h4
                have cv4 := st_v h4
                rw [hl] at cl4
                rw [hv] at cv4
                go_upto_region 8 with fail
                go_upto_region 9 with (first | (refine wpList_ints rfl [9, 5, 10, 6] 4 _ rfl rfl (by decide) (by decide) (by kernel_rfl) ?_; intro ib5 w5 k5 e5; have h5 := st_kept15 h4 k5; have cl5 := st_lvl h5; have cv5 := st_v h5; rw [hl] at cl5; rw [hv] at cv5) | (go_at_call 19; refine (rtop15 (x := hostI S on) hH _ [9, 5, 10, 6] (by decide) (by decide) e5).mono ?_; rintro r wy ⟨rfl, hwy⟩; rw [hwy, eh]; clear hwy wy))
                go_upto_region 11 with fail
                go_upto_region 12 with (first | (refine wpList_ints rfl [10, 6] 2 _ rfl rfl (by decide) (by decide) (by kernel_rfl) ?_; intro ib7 w7 k7 e7; have h7 := st_kept15 h5 k7; have cl7 := st_lvl h7; have cv7 := st_v h7; rw [hl] at cl7; rw [hv] at cv7) | (go_at_call 19; refine (rtop15 (x := gstI S on) hG _ [10, 6] (by decide) (by decide) e7).mono ?_; rintro r wy ⟨rfl, hwy⟩; rw [hwy, eg]; clear hwy wy))
                go_wp2_with (first | (refine wpList_load_is (by rfl) 26 _ rfl rfl h7 _ Tryd.underlying26 rfl st_size ?_))
                refine (rbit15 hS (i := 22) (k := 1) (by omega) (by omega)).mono ?_
                rintro r w8 ⟨rfl, k8⟩
                rw [hb22]
                go_wp2_with fail
                refine bodyPost_ret (results_four rfl _ _ _) rfl ⟨by rw [show M = ⟨bits .or .u64 9223372036854775808 (g - 1), 1, true, true⟩ from hJ]; rfl, ((((kk3.then k4).then k5).then k7).then k8)⟩
      · rw [if_pos ⟨nm, by simp only [hb3, Bool.or_true]⟩] at hI
        have hJ : Hid (M = _) := hI
        clear hI
        rw [hl] at cl3
        go_wp2_with (first | (refine wpList_load_is (by rfl) 26 _ rfl rfl h3 _ Tryd.underlying26 rfl st_size ?_))
        refine (rbit15 hS (i := 0) (k := 3) (by omega) (by omega)).mono ?_
        rintro r w4 ⟨rfl, k4⟩
        rw [hb3]
        have h4 := st_kept15 h3 k4
        have cl4 := st_lvl h4
        have cv4 := st_v h4
        rw [hl] at cl4
        go_wp2_with fail
        refine bodyPost_ret (results_four rfl _ _ _) rfl ⟨by rw [show M = ⟨bits .or .u64 9223372036854775808 m, 3, false, true⟩ from hJ]; rfl, (kk3.then k4)⟩
  · have hl3 := hl
    clear hl
    by_cases hl : S.lvl = 0
    · have e3 : (S.lvl == 3) = false := by rw [hl]; rfl
      have e0 : (S.lvl == 0) = true := by rw [hl]; rfl
      by_cases sm : m < 0
      · have nm : ¬ 0 ≤ m := by omega
        rw [if_neg (fun z => nm z.1)] at hI
        have qm : m < 0 := by omega
        have rm : ¬ m ≥ 0 := by omega
        by_cases sh : h < 0
        · have nh : ¬ 0 ≤ h := by omega
          rw [if_neg (fun z => nh z.1)] at hI
          have qh : h < 0 := by omega
          have rh : ¬ h ≥ 0 := by omega
          by_cases sg : g < 0
          · have ng : ¬ 0 ≤ g := by omega
            rw [if_neg (fun z => ng z.1)] at hI
            have qg : g < 0 := by omega
            have rg : ¬ g ≥ 0 := by omega
            have hJ : Hid (M = _) := hI
            clear hI
            rw [hl] at cl3
            go_upto_region 8 with fail
            go_upto_region 9 with (first | (refine wpList_ints rfl [9, 5, 10, 6] 4 _ rfl rfl (by decide) (by decide) (by kernel_rfl) ?_; intro ib5 w5 k5 e5; have h5 := st_kept15 h3 k5; have cl5 := st_lvl h5; have cv5 := st_v h5; rw [hl] at cl5) | (go_at_call 19; refine (rtop15 (x := hostI S on) hH _ [9, 5, 10, 6] (by decide) (by decide) e5).mono ?_; rintro r wy ⟨rfl, hwy⟩; rw [hwy, eh]; clear hwy wy))
            go_upto_region 11 with fail
            go_upto_region 12 with (first | (refine wpList_ints rfl [10, 6] 2 _ rfl rfl (by decide) (by decide) (by kernel_rfl) ?_; intro ib7 w7 k7 e7; have h7 := st_kept15 h5 k7; have cl7 := st_lvl h7; have cv7 := st_v h7; rw [hl] at cl7) | (go_at_call 19; refine (rtop15 (x := gstI S on) hG _ [10, 6] (by decide) (by decide) e7).mono ?_; rintro r wy ⟨rfl, hwy⟩; rw [hwy, eg]; clear hwy wy))
            go_wp2_with fail
            refine bodyPost_ret (results_four rfl _ _ _) rfl ⟨by rw [show M = ⟨0, 0, false, false⟩ from hJ]; rfl, ((kk3.then k5).then k7)⟩
          · have ng : 0 ≤ g := by omega
            have rg : g ≥ 0 := by omega
            cases hv : S.v
            · rw [if_neg (fun z => by have z2 := z.2; simp only [hv, Bool.false_and] at z2; exact Bool.noConfusion z2)] at hI
              have hJ : Hid (M = _) := hI
              clear hI
              rw [hl] at cl3
              rw [hv] at cv3
              go_upto_region 8 with fail
              go_upto_region 9 with (first | (refine wpList_ints rfl [9, 5, 10, 6] 4 _ rfl rfl (by decide) (by decide) (by kernel_rfl) ?_; intro ib5 w5 k5 e5; have h5 := st_kept15 h3 k5; have cl5 := st_lvl h5; have cv5 := st_v h5; rw [hl] at cl5; rw [hv] at cv5) | (go_at_call 19; refine (rtop15 (x := hostI S on) hH _ [9, 5, 10, 6] (by decide) (by decide) e5).mono ?_; rintro r wy ⟨rfl, hwy⟩; rw [hwy, eh]; clear hwy wy))
              go_upto_region 11 with fail
              go_upto_region 12 with (first | (refine wpList_ints rfl [10, 6] 2 _ rfl rfl (by decide) (by decide) (by kernel_rfl) ?_; intro ib7 w7 k7 e7; have h7 := st_kept15 h5 k7; have cl7 := st_lvl h7; have cv7 := st_v h7; rw [hl] at cl7; rw [hv] at cv7) | (go_at_call 19; refine (rtop15 (x := gstI S on) hG _ [10, 6] (by decide) (by decide) e7).mono ?_; rintro r wy ⟨rfl, hwy⟩; rw [hwy, eg]; clear hwy wy))
              go_wp2_with fail
              refine bodyPost_ret (results_four rfl _ _ _) rfl ⟨by rw [show M = ⟨0, 0, false, false⟩ from hJ]; rfl, ((kk3.then k5).then k7)⟩
            · rw [if_pos ⟨ng, by simp only [hv, e0, Bool.true_or, Bool.and_self]⟩] at hI
              have hJ : Hid (M = _) := hI
              clear hI
              rw [hl] at cl3
              rw [hv] at cv3
              go_upto_region 8 with fail
              go_upto_region 9 with (first | (refine wpList_ints rfl [9, 5, 10, 6] 4 _ rfl rfl (by decide) (by decide) (by kernel_rfl) ?_; intro ib5 w5 k5 e5; have h5 := st_kept15 h3 k5; have cl5 := st_lvl h5; have cv5 := st_v h5; rw [hl] at cl5; rw [hv] at cv5) | (go_at_call 19; refine (rtop15 (x := hostI S on) hH _ [9, 5, 10, 6] (by decide) (by decide) e5).mono ?_; rintro r wy ⟨rfl, hwy⟩; rw [hwy, eh]; clear hwy wy))
              go_upto_region 11 with fail
              go_upto_region 12 with (first | (refine wpList_ints rfl [10, 6] 2 _ rfl rfl (by decide) (by decide) (by kernel_rfl) ?_; intro ib7 w7 k7 e7; have h7 := st_kept15 h5 k7; have cl7 := st_lvl h7; have cv7 := st_v h7; rw [hl] at cl7; rw [hv] at cv7) | (go_at_call 19; refine (rtop15 (x := gstI S on) hG _ [10, 6] (by decide) (by decide) e7).mono ?_; rintro r wy ⟨rfl, hwy⟩; rw [hwy, eg]; clear hwy wy))
              go_wp2_with fail
              refine bodyPost_ret (results_four rfl _ _ _) rfl ⟨by rw [show M = ⟨bits .or .u64 9223372036854775808 (g - 1), 1, true, true⟩ from hJ]; rfl, ((kk3.then k5).then k7)⟩
        · have nh : 0 ≤ h := by omega
          have rh : h ≥ 0 := by omega
          cases hv : S.v
          · rw [if_pos ⟨nh, by simp only [e3, e0, hv, Bool.not_false, Bool.true_and, Bool.false_or, Bool.true_or]⟩] at hI
            have hJ : Hid (M = _) := hI
            clear hI
            rw [hl] at cl3
            rw [hv] at cv3
            go_upto_region 8 with fail
            go_upto_region 9 with (first | (refine wpList_ints rfl [9, 5, 10, 6] 4 _ rfl rfl (by decide) (by decide) (by kernel_rfl) ?_; intro ib5 w5 k5 e5; have h5 := st_kept15 h3 k5; have cl5 := st_lvl h5; have cv5 := st_v h5; rw [hl] at cl5; rw [hv] at cv5) | (go_at_call 19; refine (rtop15 (x := hostI S on) hH _ [9, 5, 10, 6] (by decide) (by decide) e5).mono ?_; rintro r wy ⟨rfl, hwy⟩; rw [hwy, eh]; clear hwy wy))
            go_wp2_with fail
            refine bodyPost_ret (results_four rfl _ _ _) rfl ⟨by rw [show M = ⟨bits .or .u64 9223372036854775808 h, 1, false, true⟩ from hJ]; rfl, (kk3.then k5)⟩
          · rw [if_pos ⟨nh, by simp only [e3, e0, hv, Bool.not_false, Bool.true_and, Bool.true_or]⟩] at hI
            have hJ : Hid (M = _) := hI
            clear hI
            rw [hl] at cl3
            rw [hv] at cv3
            go_upto_region 8 with fail
            go_upto_region 9 with (first | (refine wpList_ints rfl [9, 5, 10, 6] 4 _ rfl rfl (by decide) (by decide) (by kernel_rfl) ?_; intro ib5 w5 k5 e5; have h5 := st_kept15 h3 k5; have cl5 := st_lvl h5; have cv5 := st_v h5; rw [hl] at cl5; rw [hv] at cv5) | (go_at_call 19; refine (rtop15 (x := hostI S on) hH _ [9, 5, 10, 6] (by decide) (by decide) e5).mono ?_; rintro r wy ⟨rfl, hwy⟩; rw [hwy, eh]; clear hwy wy))
            go_wp2_with fail
            refine bodyPost_ret (results_four rfl _ _ _) rfl ⟨by rw [show M = ⟨bits .or .u64 9223372036854775808 h, 1, false, true⟩ from hJ]; rfl, (kk3.then k5)⟩
      · have nm : 0 ≤ m := by omega
        have rm : m ≥ 0 := by omega
        rw [if_pos ⟨nm, by simp only [e3, Bool.not_false, Bool.true_or]⟩] at hI
        have hJ : Hid (M = _) := hI
        clear hI
        rw [hl] at cl3
        go_wp2_with fail
        refine bodyPost_ret (results_four rfl _ _ _) rfl ⟨by rw [show M = ⟨bits .or .u64 9223372036854775808 m, 3, false, true⟩ from hJ]; rfl, kk3⟩
    · have hl0 := hl
      clear hl
      have e3 : (S.lvl == 3) = false := beq_eq_false_iff_ne.2 hl3
      have e0 : (S.lvl == 0) = false := beq_eq_false_iff_ne.2 hl0
      have f3 : (S.lvl != 3) = true := bne_iff_ne.2 hl3
      have f0 : (S.lvl != 0) = true := bne_iff_ne.2 hl0
      by_cases sm : m < 0
      · have nm : ¬ 0 ≤ m := by omega
        rw [if_neg (fun z => nm z.1)] at hI
        have qm : m < 0 := by omega
        have rm : ¬ m ≥ 0 := by omega
        by_cases sh : h < 0
        · have nh : ¬ 0 ≤ h := by omega
          rw [if_neg (fun z => nh z.1)] at hI
          have qh : h < 0 := by omega
          have rh : ¬ h ≥ 0 := by omega
          by_cases sg : g < 0
          · have ng : ¬ 0 ≤ g := by omega
            rw [if_neg (fun z => ng z.1)] at hI
            have qg : g < 0 := by omega
            have rg : ¬ g ≥ 0 := by omega
            have hJ : Hid (M = _) := hI
            clear hI
            go_upto_region 8 with fail
            go_upto_region 9 with (first | (refine wpList_ints rfl [9, 5, 10, 6] 4 _ rfl rfl (by decide) (by decide) (by kernel_rfl) ?_; intro ib5 w5 k5 e5; have h5 := st_kept15 h3 k5; have cl5 := st_lvl h5; have cv5 := st_v h5) | (go_at_call 19; refine (rtop15 (x := hostI S on) hH _ [9, 5, 10, 6] (by decide) (by decide) e5).mono ?_; rintro r wy ⟨rfl, hwy⟩; rw [hwy, eh]; clear hwy wy))
            go_upto_region 11 with fail
            go_upto_region 12 with (first | (refine wpList_ints rfl [10, 6] 2 _ rfl rfl (by decide) (by decide) (by kernel_rfl) ?_; intro ib7 w7 k7 e7; have h7 := st_kept15 h5 k7; have cl7 := st_lvl h7; have cv7 := st_v h7) | (go_at_call 19; refine (rtop15 (x := gstI S on) hG _ [10, 6] (by decide) (by decide) e7).mono ?_; rintro r wy ⟨rfl, hwy⟩; rw [hwy, eg]; clear hwy wy))
            go_wp2_with fail
            refine bodyPost_ret (results_four rfl _ _ _) rfl ⟨by rw [show M = ⟨0, 0, false, false⟩ from hJ]; rfl, ((kk3.then k5).then k7)⟩
          · have ng : 0 ≤ g := by omega
            have rg : g ≥ 0 := by omega
            cases hv : S.v
            · rw [if_neg (fun z => by have z2 := z.2; simp only [hv, Bool.false_and] at z2; exact Bool.noConfusion z2)] at hI
              have hJ : Hid (M = _) := hI
              clear hI
              rw [hv] at cv3
              go_upto_region 8 with fail
              go_upto_region 9 with (first | (refine wpList_ints rfl [9, 5, 10, 6] 4 _ rfl rfl (by decide) (by decide) (by kernel_rfl) ?_; intro ib5 w5 k5 e5; have h5 := st_kept15 h3 k5; have cl5 := st_lvl h5; have cv5 := st_v h5; rw [hv] at cv5) | (go_at_call 19; refine (rtop15 (x := hostI S on) hH _ [9, 5, 10, 6] (by decide) (by decide) e5).mono ?_; rintro r wy ⟨rfl, hwy⟩; rw [hwy, eh]; clear hwy wy))
              go_upto_region 11 with fail
              go_upto_region 12 with (first | (refine wpList_ints rfl [10, 6] 2 _ rfl rfl (by decide) (by decide) (by kernel_rfl) ?_; intro ib7 w7 k7 e7; have h7 := st_kept15 h5 k7; have cl7 := st_lvl h7; have cv7 := st_v h7; rw [hv] at cv7) | (go_at_call 19; refine (rtop15 (x := gstI S on) hG _ [10, 6] (by decide) (by decide) e7).mono ?_; rintro r wy ⟨rfl, hwy⟩; rw [hwy, eg]; clear hwy wy))
              go_wp2_with fail
              refine bodyPost_ret (results_four rfl _ _ _) rfl ⟨by rw [show M = ⟨0, 0, false, false⟩ from hJ]; rfl, ((kk3.then k5).then k7)⟩
            · cases hb22 : tb (S.C 22) 1
              · rw [if_neg (fun z => by have z2 := z.2; simp only [hv, e0, hb22, Bool.or_self, Bool.and_false] at z2; exact Bool.noConfusion z2)] at hI
                have hJ : Hid (M = _) := hI
                clear hI
                rw [hv] at cv3
                go_upto_region 8 with fail
                go_upto_region 9 with (first | (refine wpList_ints rfl [9, 5, 10, 6] 4 _ rfl rfl (by decide) (by decide) (by kernel_rfl) ?_; intro ib5 w5 k5 e5; have h5 := st_kept15 h3 k5; have cl5 := st_lvl h5; have cv5 := st_v h5; rw [hv] at cv5) | (go_at_call 19; refine (rtop15 (x := hostI S on) hH _ [9, 5, 10, 6] (by decide) (by decide) e5).mono ?_; rintro r wy ⟨rfl, hwy⟩; rw [hwy, eh]; clear hwy wy))
                go_upto_region 11 with fail
                go_upto_region 12 with (first | (refine wpList_ints rfl [10, 6] 2 _ rfl rfl (by decide) (by decide) (by kernel_rfl) ?_; intro ib7 w7 k7 e7; have h7 := st_kept15 h5 k7; have cl7 := st_lvl h7; have cv7 := st_v h7; rw [hv] at cv7) | (go_at_call 19; refine (rtop15 (x := gstI S on) hG _ [10, 6] (by decide) (by decide) e7).mono ?_; rintro r wy ⟨rfl, hwy⟩; rw [hwy, eg]; clear hwy wy))
                go_wp2_with (first | (refine wpList_load_is (by rfl) 26 _ rfl rfl h7 _ Tryd.underlying26 rfl st_size ?_))
                refine (rbit15 hS (i := 22) (k := 1) (by omega) (by omega)).mono ?_
                rintro r w8 ⟨rfl, k8⟩
                rw [hb22]
                go_wp2_with fail
                refine bodyPost_ret (results_four rfl _ _ _) rfl ⟨by rw [show M = ⟨0, 0, false, false⟩ from hJ]; rfl, (((kk3.then k5).then k7).then k8)⟩
              · rw [if_pos ⟨ng, by simp only [hv, e0, hb22, Bool.or_true, Bool.and_self]⟩] at hI
                have hJ : Hid (M = _) := hI
                clear hI
                rw [hv] at cv3
                go_upto_region 8 with fail
                go_upto_region 9 with (first | (refine wpList_ints rfl [9, 5, 10, 6] 4 _ rfl rfl (by decide) (by decide) (by kernel_rfl) ?_; intro ib5 w5 k5 e5; have h5 := st_kept15 h3 k5; have cl5 := st_lvl h5; have cv5 := st_v h5; rw [hv] at cv5) | (go_at_call 19; refine (rtop15 (x := hostI S on) hH _ [9, 5, 10, 6] (by decide) (by decide) e5).mono ?_; rintro r wy ⟨rfl, hwy⟩; rw [hwy, eh]; clear hwy wy))
                go_upto_region 11 with fail
                go_upto_region 12 with (first | (refine wpList_ints rfl [10, 6] 2 _ rfl rfl (by decide) (by decide) (by kernel_rfl) ?_; intro ib7 w7 k7 e7; have h7 := st_kept15 h5 k7; have cl7 := st_lvl h7; have cv7 := st_v h7; rw [hv] at cv7) | (go_at_call 19; refine (rtop15 (x := gstI S on) hG _ [10, 6] (by decide) (by decide) e7).mono ?_; rintro r wy ⟨rfl, hwy⟩; rw [hwy, eg]; clear hwy wy))
                go_wp2_with (first | (refine wpList_load_is (by rfl) 26 _ rfl rfl h7 _ Tryd.underlying26 rfl st_size ?_))
                refine (rbit15 hS (i := 22) (k := 1) (by omega) (by omega)).mono ?_
                rintro r w8 ⟨rfl, k8⟩
                rw [hb22]
                go_wp2_with fail
                refine bodyPost_ret (results_four rfl _ _ _) rfl ⟨by rw [show M = ⟨bits .or .u64 9223372036854775808 (g - 1), 1, true, true⟩ from hJ]; rfl, (((kk3.then k5).then k7).then k8)⟩
        · have nh : 0 ≤ h := by omega
          have rh : h ≥ 0 := by omega
          cases hv : S.v
          · cases hb1 : tb (S.C 0) 1
            · rw [if_neg (fun z => by have z2 := z.2; simp only [e3, e0, hv, hb1, Bool.or_self, Bool.and_false] at z2; exact Bool.noConfusion z2)] at hI
              by_cases sg : g < 0
              · have ng : ¬ 0 ≤ g := by omega
                rw [if_neg (fun z => ng z.1)] at hI
                have qg : g < 0 := by omega
                have rg : ¬ g ≥ 0 := by omega
                have hJ : Hid (M = _) := hI
                clear hI
                rw [hv] at cv3
                go_upto_region 8 with fail
                go_upto_region 9 with (first | (refine wpList_ints rfl [9, 5, 10, 6] 4 _ rfl rfl (by decide) (by decide) (by kernel_rfl) ?_; intro ib5 w5 k5 e5; have h5 := st_kept15 h3 k5; have cl5 := st_lvl h5; have cv5 := st_v h5; rw [hv] at cv5) | (go_at_call 19; refine (rtop15 (x := hostI S on) hH _ [9, 5, 10, 6] (by decide) (by decide) e5).mono ?_; rintro r wy ⟨rfl, hwy⟩; rw [hwy, eh]; clear hwy wy))
                go_wp2_with (first | (refine wpList_load_is (by rfl) 26 _ rfl rfl h5 _ Tryd.underlying26 rfl st_size ?_))
                refine (rbit15 hS (i := 0) (k := 1) (by omega) (by omega)).mono ?_
                rintro r w6 ⟨rfl, k6⟩
                rw [hb1]
                have h6 := st_kept15 h5 k6
                have cl6 := st_lvl h6
                have cv6 := st_v h6
                rw [hv] at cv6
                go_upto_region 11 with fail
                go_upto_region 12 with (first | (refine wpList_ints rfl [10, 6] 2 _ rfl rfl (by decide) (by decide) (by kernel_rfl) ?_; intro ib7 w7 k7 e7; have h7 := st_kept15 h6 k7; have cl7 := st_lvl h7; have cv7 := st_v h7; rw [hv] at cv7) | (go_at_call 19; refine (rtop15 (x := gstI S on) hG _ [10, 6] (by decide) (by decide) e7).mono ?_; rintro r wy ⟨rfl, hwy⟩; rw [hwy, eg]; clear hwy wy))
                go_wp2_with fail
                refine bodyPost_ret (results_four rfl _ _ _) rfl ⟨by rw [show M = ⟨0, 0, false, false⟩ from hJ]; rfl, (((kk3.then k5).then k6).then k7)⟩
              · have ng : 0 ≤ g := by omega
                have rg : g ≥ 0 := by omega
                rw [if_neg (fun z => by have z2 := z.2; simp only [hv, Bool.false_and] at z2; exact Bool.noConfusion z2)] at hI
                have hJ : Hid (M = _) := hI
                clear hI
                rw [hv] at cv3
                go_upto_region 8 with fail
                go_upto_region 9 with (first | (refine wpList_ints rfl [9, 5, 10, 6] 4 _ rfl rfl (by decide) (by decide) (by kernel_rfl) ?_; intro ib5 w5 k5 e5; have h5 := st_kept15 h3 k5; have cl5 := st_lvl h5; have cv5 := st_v h5; rw [hv] at cv5) | (go_at_call 19; refine (rtop15 (x := hostI S on) hH _ [9, 5, 10, 6] (by decide) (by decide) e5).mono ?_; rintro r wy ⟨rfl, hwy⟩; rw [hwy, eh]; clear hwy wy))
                go_wp2_with (first | (refine wpList_load_is (by rfl) 26 _ rfl rfl h5 _ Tryd.underlying26 rfl st_size ?_))
                refine (rbit15 hS (i := 0) (k := 1) (by omega) (by omega)).mono ?_
                rintro r w6 ⟨rfl, k6⟩
                rw [hb1]
                have h6 := st_kept15 h5 k6
                have cl6 := st_lvl h6
                have cv6 := st_v h6
                rw [hv] at cv6
                go_upto_region 11 with fail
                go_upto_region 12 with (first | (refine wpList_ints rfl [10, 6] 2 _ rfl rfl (by decide) (by decide) (by kernel_rfl) ?_; intro ib7 w7 k7 e7; have h7 := st_kept15 h6 k7; have cl7 := st_lvl h7; have cv7 := st_v h7; rw [hv] at cv7) | (go_at_call 19; refine (rtop15 (x := gstI S on) hG _ [10, 6] (by decide) (by decide) e7).mono ?_; rintro r wy ⟨rfl, hwy⟩; rw [hwy, eg]; clear hwy wy))
                go_wp2_with fail
                refine bodyPost_ret (results_four rfl _ _ _) rfl ⟨by rw [show M = ⟨0, 0, false, false⟩ from hJ]; rfl, (((kk3.then k5).then k6).then k7)⟩
            · rw [if_pos ⟨nh, by simp only [e3, e0, hv, hb1, Bool.not_false, Bool.true_and, Bool.false_or]⟩] at hI
              have hJ : Hid (M = _) := hI
              clear hI
              rw [hv] at cv3
              go_upto_region 8 with fail
              go_upto_region 9 with (first | (refine wpList_ints rfl [9, 5, 10, 6] 4 _ rfl rfl (by decide) (by decide) (by kernel_rfl) ?_; intro ib5 w5 k5 e5; have h5 := st_kept15 h3 k5; have cl5 := st_lvl h5; have cv5 := st_v h5; rw [hv] at cv5) | (go_at_call 19; refine (rtop15 (x := hostI S on) hH _ [9, 5, 10, 6] (by decide) (by decide) e5).mono ?_; rintro r wy ⟨rfl, hwy⟩; rw [hwy, eh]; clear hwy wy))
              go_wp2_with (first | (refine wpList_load_is (by rfl) 26 _ rfl rfl h5 _ Tryd.underlying26 rfl st_size ?_))
              refine (rbit15 hS (i := 0) (k := 1) (by omega) (by omega)).mono ?_
              rintro r w6 ⟨rfl, k6⟩
              rw [hb1]
              have h6 := st_kept15 h5 k6
              have cl6 := st_lvl h6
              have cv6 := st_v h6
              rw [hv] at cv6
              go_wp2_with fail
              refine bodyPost_ret (results_four rfl _ _ _) rfl ⟨by rw [show M = ⟨bits .or .u64 9223372036854775808 h, 1, false, true⟩ from hJ]; rfl, ((kk3.then k5).then k6)⟩
          · rw [if_pos ⟨nh, by simp only [e3, hv, Bool.not_false, Bool.true_and, Bool.true_or]⟩] at hI
            have hJ : Hid (M = _) := hI
            clear hI
            rw [hv] at cv3
            go_upto_region 8 with fail
            go_upto_region 9 with (first | (refine wpList_ints rfl [9, 5, 10, 6] 4 _ rfl rfl (by decide) (by decide) (by kernel_rfl) ?_; intro ib5 w5 k5 e5; have h5 := st_kept15 h3 k5; have cl5 := st_lvl h5; have cv5 := st_v h5; rw [hv] at cv5) | (go_at_call 19; refine (rtop15 (x := hostI S on) hH _ [9, 5, 10, 6] (by decide) (by decide) e5).mono ?_; rintro r wy ⟨rfl, hwy⟩; rw [hwy, eh]; clear hwy wy))
            go_wp2_with fail
            refine bodyPost_ret (results_four rfl _ _ _) rfl ⟨by rw [show M = ⟨bits .or .u64 9223372036854775808 h, 1, false, true⟩ from hJ]; rfl, (kk3.then k5)⟩
      · have nm : 0 ≤ m := by omega
        have rm : m ≥ 0 := by omega
        rw [if_pos ⟨nm, by simp only [e3, Bool.not_false, Bool.true_or]⟩] at hI
        have hJ : Hid (M = _) := hI
        clear hI
        go_wp2_with fail
        refine bodyPost_ret (results_four rfl _ _ _) rfl ⟨by rw [show M = ⟨bits .or .u64 9223372036854775808 m, 3, false, true⟩ from hJ]; rfl, kk3⟩

end
end Go.Proofs.YtkijdogckfpdpaaDoor
