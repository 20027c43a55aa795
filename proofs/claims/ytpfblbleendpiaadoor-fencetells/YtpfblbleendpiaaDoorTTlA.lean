/-
  Where an entry is, as the landed package's own calls answer: walked whole, for every argument.
-/
import Derived.Test.YtpfblbleendpiaaDoorRefTl5
import Derived.Lib.SliceRun
namespace Go.Proofs.YtpfblbleendpiaaDoor
open Go.RowKit
/-- What an entry is found by. -/
def nameA (page : Int) (v : Bool) (asid vmid : Int) : Array Value := #[.int .i64 page, .bool v, .int .i64 asid, .int .i64 vmid]
theorem name_zero : (Tryd.prog.info? 75).map (fun i => i.zero.map (·.cells)) = some (some (nameA 0 false 0 0)) := by kernel_rfl
theorem name_size (page : Int) (v : Bool) (asid vmid : Int) : (Tryd.prog.info? 75).map (·.size) = some (nameA page v asid vmid).size := by
  rw [show (nameA page v asid vmid).size = 4 from rfl]
  kernel_rfl
theorem name_ones (page : Int) (v : Bool) (asid vmid : Int) : (nameA page v asid vmid).all (·.oneCell') = true := by simp [nameA, Value.oneCell']
theorem name_guard (p : Int) (v : Bool) (a m p' : Int) (v' : Bool) (a' m' : Int) (x y : Operand) (w : World) : (eqGuard .eql 75 x y (.agg (nameA p v a m)) (.agg (nameA p' v' a' m'))).run Tryd.prog w = .ok () w := by
  unfold eqGuard
  simp [go_sem]
theorem eq_name (p : Int) (v : Bool) (a m p' : Int) (v' : Bool) (a' m' : Int) (w : World) : (binOp .eql 75 (.agg (nameA p v a m)) (.agg (nameA p' v' a' m'))).run Tryd.prog w = Result.ok (.bool ((p == p') && ((v == v') && ((a == a') && (m == m'))))) w := by
  unfold nameA
  simp [go_sem]
  repeat' split
  all_goals simp [*]
theorem exec_eqN {o : Oper} {ev : Operand → Value} {u : TypeId} {x y : Operand} {p : Int} {v : Bool} {a m p' : Int} {v' : Bool} {a' m' : Int} {w : World} (ho : o.op = .binOp .eql 75 x y u) (hx : ev x = .agg (nameA p v a m)) (hy : ev y = .agg (nameA p' v' a' m')) :
    (execOp ev o).run Tryd.prog w = .ok (.value (.bool ((p == p') && ((v == v') && ((a == a') && (m == m')))))) w := by
  unfold execOp
  simp only [ho, hx, hy, Sem.run_bind, name_guard, eq_name, Result.andThen_ok, Sem.run_pure]
theorem find_congr {h h' : Nat → Bool} : ∀ n i : Nat, (∀ j, i ≤ j → j < i + n → h j = h' j) → findF h n i = findF h' n i
  | 0, _, _ => rfl
  | n + 1, i, hh => by
    unfold findF
    rw [hh i (by omega) (by omega), find_congr n (i + 1) fun j h1 h2 => hh j (by omega) (by omega)]
section
variable {w : World} {b : Nat} {T : Nat → EntM}
theorem tname_any (e : EntM) :
    Calls Tryd.prog 38 #[.agg (entA e).toArray] w fun r w' => r = .returned (.agg (nameA e.page e.v e.asid e.vmid)) ∧ Kept w w' := by
  have kb := (Only.refl (fun _ => False) w).alloc (.cells (entA e).toArray 47)
  have bl : Blk (w.alloc (.cells (entA e).toArray 47)) w.heap.size 47 (entA e).toArray := alloc_last w _ _
  go_enter Tryd.func38, Tryd.ntmps38
  go_upto_region 1 with (refine wpList_alloc_go rfl 75 rfl (nameA 0 false 0 0) name_zero ?_; intro nb wa na ka ma ea)
  have b1 := bl.kept ka
  have c1 : _ = some (Value.bool e.v) := b1.cell 1
  have c2 : _ = some (Value.int .i64 e.page) := b1.cell 2
  have c3 : _ = some (Value.int .i64 e.asid) := b1.cell 3
  have c4 : _ = some (Value.int .i64 e.vmid) := b1.cell 4
  clear bl b1
  go_wp2_with (first | (refine wpList_built rfl 75 _ rfl (nameA e.page e.v e.asid e.vmid) (by kernel_rfl) ?_) | (refine wpList_store_go rfl 75 _ _ rfl nb (nameA e.page e.v e.asid e.vmid) rfl rfl ea (name_size _ _ _ _) rfl (name_ones _ _ _ _) ?_; intro wb ob fb))
  refine bodyPost_ret (results_cell_row rfl _ _ nb 75 _ (0, 0) _ rfl fb Tryd.underlying75 rfl (name_size _ _ _ _)) rfl ⟨rfl, (kb.then ka).new ob fun i hi => by have := kb.size; omega⟩
theorem tclos_any {nb : Nat} {page : Int} {v : Bool} {asid vmid : Int} (hn : Blk w nb 75 (nameA page v asid vmid)) (e : EntM) :
    Calls Tryd.prog 41 #[.agg (entA e).toArray, .pointer (some ⟨nb, 0, none⟩)] w fun r w' => r = .returned (.bool (hitE page v asid vmid e)) ∧ Kept w w' := by
  have kb := (Only.refl (fun _ => False) w).alloc (.cells (entA e).toArray 47)
  have bl : Blk (w.alloc (.cells (entA e).toArray 47)) w.heap.size 47 (entA e).toArray := alloc_last w _ _
  have hnb := hn.kept kb
  clear hn
  go_enter Tryd.func41, Tryd.ntmps41
  go_upto_region 1 with fail
  generalize hw1 : w.alloc (.cells (entA e).toArray 47) = w1 at *
  generalize w.heap.size = eb at *
  clear hw1
  have hE9 : Blk w1.drew eb 47 (entA e).toArray := bl.kept ((Only.refl _ w1).drew)
  have hN9 : Blk w1.drew nb 75 (nameA page v asid vmid) := hnb.kept ((Only.refl _ w1).drew)
  have hk9 : Kept w w1.drew := kb.then ((Only.refl _ w1).drew)
  clear bl hnb kb
  refine wp_region_held_drew (S := fun w2 => Kept w1.drew w2) (by kernel_rfl) (Only.refl _ _) (fun hHeld => ?_)
  generalize w1.drew = wd at *
  cases hv : e.valid
  · have c9 : ∀ w2, Kept wd w2 → w2.cell? ⟨eb, 0, none⟩ = some (.bool false) := fun w2 k => ((hE9.kept k).cell 0).trans (congrArg (fun x => some (Value.bool x)) hv)
    refine wpAnyH_take (i := 0) (v := ?_) rfl (by kernel_rfl) (by kernel_rfl) (by kernel_rfl) (fun _ _ _ h => h) (Or.inl ⟨by rfl, ?_⟩) hHeld ?_
    rotate_left
    · intro w2 hSw
      go_simp
      all_goals rfl
    try simp only [Act.put, List.getElem_toArray, List.getElem_cons_zero, List.setIfInBounds_toArray, List.set_cons_zero, List.set_cons_succ]
    refine wpAnyH_take (i := 1) (v := .bool false) rfl (by kernel_rfl) (by kernel_rfl) (by kernel_rfl) (fun _ _ _ h => h) (Or.inl ⟨by rfl, ?_⟩) hHeld ?_
    · intro w2 hSw
      exact exec_load rfl rfl (run_loadVar_cell9 (c9 _ hSw) rfl Tryd.underlying4)
    try simp only [Act.put, List.getElem_toArray, List.getElem_cons_zero, List.getElem_cons_succ, List.setIfInBounds_toArray, List.set_cons_zero, List.set_cons_succ]
    refine wpAnyH_take (i := 2) (v := ?_) rfl (by kernel_rfl) (by kernel_rfl) (by kernel_rfl) (fun _ _ _ h => h) (Or.inl ⟨by rfl, ?_⟩) hHeld ?_
    rotate_left
    · intro w2 hSw
      go_simp
      all_goals rfl
    try simp only [Act.put, List.getElem_toArray, List.getElem_cons_zero, List.getElem_cons_succ, List.setIfInBounds_toArray, List.set_cons_zero, List.set_cons_succ]
    refine wpAnyH_take (i := 3) rfl (by kernel_rfl) (by kernel_rfl) (by kernel_rfl) (fun _ _ _ h => h) (Or.inr ⟨by rfl, rfl⟩) hHeld ?_
    try simp only [Act.put, List.getElem_toArray, List.getElem_cons_zero, List.getElem_cons_succ, List.setIfInBounds_toArray, List.set_cons_zero, List.set_cons_succ]
    refine wpAnyH_take (i := 4) rfl (by kernel_rfl) (by kernel_rfl) (by kernel_rfl) (fun _ _ _ h => h) (Or.inr ⟨by rfl, rfl⟩) hHeld ?_
    try simp only [Act.put, List.getElem_toArray, List.getElem_cons_zero, List.getElem_cons_succ, List.setIfInBounds_toArray, List.set_cons_zero, List.set_cons_succ]
    refine wpAnyH_take (i := 5) rfl (by kernel_rfl) (by kernel_rfl) (by kernel_rfl) (fun _ _ _ h => h) (Or.inr ⟨by rfl, rfl⟩) hHeld ?_
    try simp only [Act.put, List.getElem_toArray, List.getElem_cons_zero, List.getElem_cons_succ, List.setIfInBounds_toArray, List.set_cons_zero, List.set_cons_succ]
    refine wpAnyH_take (i := 6) rfl (by kernel_rfl) (by kernel_rfl) (by kernel_rfl) (fun _ _ _ h => h) (Or.inr ⟨by rfl, rfl⟩) hHeld ?_
    try simp only [Act.put, List.getElem_toArray, List.getElem_cons_zero, List.getElem_cons_succ, List.setIfInBounds_toArray, List.set_cons_zero, List.set_cons_succ]
    refine wpAnyH_take (i := 7) (v := ?_) rfl (by kernel_rfl) (by kernel_rfl) (by kernel_rfl) (fun _ _ _ h => h) (Or.inl ⟨by rfl, ?_⟩) hHeld ?_
    rotate_left
    · intro w2 hSw
      go_simp
      all_goals rfl
    try simp only [Act.put, List.getElem_toArray, List.getElem_cons_zero, List.getElem_cons_succ, List.setIfInBounds_toArray, List.set_cons_zero, List.set_cons_succ]
    refine wpAnyH_take (i := 8) (v := ?_) rfl (by kernel_rfl) (by kernel_rfl) (by kernel_rfl) (fun _ _ _ h => h) (Or.inl ⟨by rfl, ?_⟩) hHeld ?_
    rotate_left
    · intro w2 hSw
      go_simp
      all_goals rfl
    try simp only [Act.put, List.getElem_toArray, List.getElem_cons_zero, List.getElem_cons_succ, List.setIfInBounds_toArray, List.set_cons_zero, List.set_cons_succ]
    refine wpAnyH_done (by kernel_rfl) ?_ _
    have hw9 := hk9.then hHeld
    clear hHeld hE9 hN9 hk9 c9
    go_wp2_with fail
    go_ret
    exact ⟨by unfold hitE; rw [hv]; rfl, hw9⟩
  · have c9 : ∀ w2, Kept wd w2 → w2.cell? ⟨eb, 0, none⟩ = some (.bool true) := fun w2 k => ((hE9.kept k).cell 0).trans (congrArg (fun x => some (Value.bool x)) hv)
    refine wpAnyH_take (i := 0) (v := ?_) rfl (by kernel_rfl) (by kernel_rfl) (by kernel_rfl) (fun _ _ _ h => h) (Or.inl ⟨by rfl, ?_⟩) hHeld ?_
    rotate_left
    · intro w2 hSw
      go_simp
      all_goals rfl
    try simp only [Act.put, List.getElem_toArray, List.getElem_cons_zero, List.setIfInBounds_toArray, List.set_cons_zero, List.set_cons_succ]
    refine wpAnyH_take (i := 1) (v := .bool true) rfl (by kernel_rfl) (by kernel_rfl) (by kernel_rfl) (fun _ _ _ h => h) (Or.inl ⟨by rfl, ?_⟩) hHeld ?_
    · intro w2 hSw
      exact exec_load rfl rfl (run_loadVar_cell9 (c9 _ hSw) rfl Tryd.underlying4)
    try simp only [Act.put, List.getElem_toArray, List.getElem_cons_zero, List.getElem_cons_succ, List.setIfInBounds_toArray, List.set_cons_zero, List.set_cons_succ]
    refine wpAnyH_take (i := 2) (v := ?_) rfl (by kernel_rfl) (by kernel_rfl) (by kernel_rfl) (fun _ _ _ h => h) (Or.inl ⟨by rfl, ?_⟩) hHeld ?_
    rotate_left
    · intro w2 hSw
      go_simp
      all_goals rfl
    try simp only [Act.put, List.getElem_toArray, List.getElem_cons_zero, List.getElem_cons_succ, List.setIfInBounds_toArray, List.set_cons_zero, List.set_cons_succ]
    refine wpAnyH_take (i := 3) (v := .agg (entA e).toArray) rfl (by kernel_rfl) (by kernel_rfl) (by kernel_rfl) (fun _ _ _ h => h) (Or.inl ⟨by rfl, ?_⟩) hHeld ?_
    · intro w2 hSw
      exact exec_load rfl rfl (run_loadVar_mid _ eb 0 _ (entA e) _ (Blk.range (hE9.kept hSw)) Tryd.underlying47 rfl (ent_size' _))
    try simp only [Act.put, List.getElem_toArray, List.getElem_cons_zero, List.getElem_cons_succ, List.setIfInBounds_toArray, List.set_cons_zero, List.set_cons_succ]
    refine wpAnyH_take (i := 5) (v := .agg (nameA page v asid vmid)) rfl (by kernel_rfl) (by kernel_rfl) (by kernel_rfl) (fun _ _ _ h => h) (Or.inl ⟨by rfl, ?_⟩) hHeld ?_
    · intro w2 hSw
      exact exec_load rfl rfl (run_loadVar_mid _ nb 0 _ (nameA page v asid vmid).toList _ (Blk.range (hN9.kept hSw)) Tryd.underlying75 rfl (name_size _ _ _ _))
    try simp only [Act.put, List.getElem_toArray, List.getElem_cons_zero, List.getElem_cons_succ, List.setIfInBounds_toArray, List.set_cons_zero, List.set_cons_succ]
    refine wpAnyH_ready (rs := [4]) (by kernel_rfl) (by simp) ?_
    refine AllReadyH.cons rfl (fun K hK => ?_) AllReadyH.nil
    go_simp
    refine (tname_any e).mono ?_
    rintro r wn ⟨rfl, kn⟩
    go_simp
    refine hK.out _ _ (hHeld.then kn) (fun hHeld => ?_)
    clear hK K kn
    try simp only [Act.put, List.getElem_toArray, List.getElem_cons_zero, List.getElem_cons_succ, List.setIfInBounds_toArray, List.set_cons_zero, List.set_cons_succ]
    refine wpAnyH_take (i := 6) (v := .bool (e.page == page && (e.v == v && (e.asid == asid && e.vmid == vmid)))) rfl (by kernel_rfl) (by kernel_rfl) (by kernel_rfl) (fun _ _ _ h => h) (Or.inl ⟨by rfl, ?_⟩) hHeld ?_
    · intro w2 hSw
      exact exec_eqN rfl rfl rfl
    try simp only [Act.put, List.getElem_toArray, List.getElem_cons_zero, List.getElem_cons_succ, List.setIfInBounds_toArray, List.set_cons_zero, List.set_cons_succ]
    refine wpAnyH_take (i := 7) (v := ?_) rfl (by kernel_rfl) (by kernel_rfl) (by kernel_rfl) (fun _ _ _ h => h) (Or.inl ⟨by rfl, ?_⟩) hHeld ?_
    rotate_left
    · intro w2 hSw
      go_simp
      all_goals rfl
    try simp only [Act.put, List.getElem_toArray, List.getElem_cons_zero, List.getElem_cons_succ, List.setIfInBounds_toArray, List.set_cons_zero, List.set_cons_succ]
    refine wpAnyH_take (i := 8) (v := ?_) rfl (by kernel_rfl) (by kernel_rfl) (by kernel_rfl) (fun _ _ _ h => h) (Or.inl ⟨by rfl, ?_⟩) hHeld ?_
    rotate_left
    · intro w2 hSw
      go_simp
      all_goals rfl
    try simp only [Act.put, List.getElem_toArray, List.getElem_cons_zero, List.getElem_cons_succ, List.setIfInBounds_toArray, List.set_cons_zero, List.set_cons_succ]
    refine wpAnyH_done (by kernel_rfl) ?_ _
    have hw9 := hk9.then hHeld
    clear hHeld hE9 hN9 hk9 c9
    go_wp2_with fail
    go_ret
    exact ⟨by unfold hitE; rw [hv]; rfl, hw9⟩
theorem tindexf_any (ht : TlAt w b T) {nb : Nat} {page : Int} {v : Bool} {asid vmid : Int} (hn : Blk w nb 75 (nameA page v asid vmid)) :
    Calls Tryd.prog 40 #[.slice (some ⟨b, 0, none⟩) 16 16, .func (.func 41) #[] #[.pointer (some ⟨nb, 0, none⟩)]] w fun r w' => r = .returned (.int .i64 (atT T page v asid vmid)) ∧ Kept w w' := by
  unfold atT
  generalize hh : hitP T page v asid vmid = h
  go_enter Tryd.func40, Tryd.ntmps40
  go_wp2_with fail
  go_loopw [8] (fun i wr => ∃ j : Nat, j ≤ 16 ∧ i = .int .i64 (j : Int) ∧ findF h 16 0 = findF h (16 - j) j ∧ Kept w wr) (fun i _ => 16 - (intOf i).toNat)
  case atStart => exact ⟨0, by omega, rfl, rfl, Only.refl _ _⟩
  case round =>
    obtain ⟨j, hj, rfl, hf, hg⟩ := hrel
    by_cases hlt : j < 16
    · have hlt' : (j : Int) < 16 := by omega
      have hj0 : (0 : Int) ≤ (j : Int) := by omega
      have hr := (ht.kept hg).at_ j hlt
      have hj' : h j = hitE page v asid vmid (T j) := by rw [← hh]; rfl
      have hkeep : findF h 16 0 = findF h (16 - j) j := hf
      clear hf
      cases hx : hitE page v asid vmid (T j)
      · rw [hx] at hj'
        have hn9 := find_step hlt hkeep hj'
        clear hj' hkeep hh
        go_wp2_with (first | (refine wpList_load_mid rfl 47 _ rfl b (j * 9) rfl (entA (T j)) _ hr Tryd.underlying47 rfl (ent_size' _) ?_) | (go_at_call 41; refine (tclos_any (hn.kept hg) (T j)).mono ?_; rintro r wn ⟨rfl, kn⟩; rw [hx]))
        exact ⟨⟨j + 1, by omega, by go_num, hn9, hg.then kn⟩, by simp [intOf]; omega⟩
      · rw [hx] at hj'
        have hn9 := find_here hlt hkeep hj'
        clear hj' hkeep hh
        go_wp2_with (first | (refine wpList_load_mid rfl 47 _ rfl b (j * 9) rfl (entA (T j)) _ hr Tryd.underlying47 rfl (ent_size' _) ?_) | (go_at_call 41; refine (tclos_any (hn.kept hg) (T j)).mono ?_; rintro r wn ⟨rfl, kn⟩; rw [hx]))
        go_ret
        exact ⟨by rw [hn9]; rfl, hg.then kn⟩
    · obtain rfl : j = 16 := by omega
      go_wp2
      go_ret
      exact ⟨by rw [find_end hf]; rfl, hg⟩
theorem range_kept9 {w w' : World} {g o : Nat} {cs : List Value} (h : w.rangeAt g o cs) (k : Kept w w') : w'.rangeAt g o cs := fun j v hj => k.cell (h j v hj)
theorem tindex_any (ht : TlAt w b T) (e : EntM) :
    Calls Tryd.prog 39 #[.slice (some ⟨b, 0, none⟩) 16 16, .agg (entA e).toArray] w fun r w' => r = .returned (.int .i64 (findF (fun i => eqE e (T i)) 16 0)) ∧ Kept w w' := by
  generalize hh : (fun i => eqE e (T i)) = h
  have kb := (Only.refl (fun _ => False) w).alloc (.cells (entA e).toArray 47)
  have bl : Blk (w.alloc (.cells (entA e).toArray 47)) w.heap.size 47 (entA e).toArray := alloc_last w _ _
  go_enter Tryd.func39, Tryd.ntmps39
  go_upto_region 1 with fail
  generalize hw1 : w.alloc (.cells (entA e).toArray 47) = w1 at *
  generalize w.heap.size = eb at *
  clear hw1
  go_wp2_with fail
  go_loopw [8] (fun i wr => ∃ j : Nat, j ≤ 16 ∧ i = .int .i64 (j : Int) ∧ findF h 16 0 = findF h (16 - j) j ∧ Kept w1 wr) (fun i _ => 16 - (intOf i).toNat)
  case atStart => exact ⟨0, by omega, rfl, rfl, Only.refl _ _⟩
  case round =>
    obtain ⟨j, hj, rfl, hf, hg1⟩ := hrel
    by_cases hlt : j < 16
    · have hlt' : (j : Int) < 16 := by omega
      have hj0 : (0 : Int) ≤ (j : Int) := by omega
      have hr9 := (ht.kept (kb.then (hg1.then (Only.refl _ wr).drew))).at_ j hlt
      have hE9 : Blk wr.drew eb 47 (entA e).toArray := bl.kept (hg1.then (Only.refl _ wr).drew)
      have hk9 : Kept w1 wr.drew := hg1.then (Only.refl _ wr).drew
      have hj' : h j = eqE e (T j) := by rw [← hh]
      have hkeep : findF h 16 0 = findF h (16 - j) j ∧ j < 16 := ⟨hf, hlt⟩
      clear hf hg1
      go_upto_region 4 with fail
      refine wp_region_held_drew (S := fun w2 => Kept wr.drew w2) (by kernel_rfl) (Only.refl _ _) (fun hHeld => ?_)
      generalize wr.drew = wd at *
      refine wpAnyH_take (i := 0) (v := .agg (entA e).toArray) rfl (by kernel_rfl) (by kernel_rfl) (by kernel_rfl) (fun _ _ _ h => h) (Or.inl ⟨by rfl, ?_⟩) hHeld ?_
      · intro w2 hSw
        exact exec_load rfl rfl (run_loadVar_mid _ eb 0 _ (entA e) _ (Blk.range (hE9.kept hSw)) Tryd.underlying47 rfl (ent_size' _))
      try simp only [Act.put, List.getElem_toArray, List.getElem_cons_zero, List.setIfInBounds_toArray, List.set_cons_zero, List.set_cons_succ]
      refine wpAnyH_take (i := 1) (v := ?_) rfl (by kernel_rfl) (by kernel_rfl) (by kernel_rfl) (fun _ _ _ h => h) (Or.inl ⟨by rfl, ?_⟩) hHeld ?_
      rotate_left
      · intro w2 hSw
        go_simp
        all_goals rfl
      try simp only [Act.put, List.getElem_toArray, List.getElem_cons_zero, List.getElem_cons_succ, List.setIfInBounds_toArray, List.set_cons_zero, List.set_cons_succ]
      refine wpAnyH_take (i := 2) (v := ?_) rfl (by kernel_rfl) (by kernel_rfl) (by kernel_rfl) (fun _ _ _ h => h) (Or.inl ⟨by rfl, ?_⟩) hHeld ?_
      rotate_left
      · intro w2 hSw
        go_simp
        all_goals rfl
      try simp only [Act.put, List.getElem_toArray, List.getElem_cons_zero, List.getElem_cons_succ, List.setIfInBounds_toArray, List.set_cons_zero, List.set_cons_succ]
      refine wpAnyH_take (i := 3) (v := ?_) rfl (by kernel_rfl) (by kernel_rfl) (by kernel_rfl) (fun _ _ _ h => h) (Or.inl ⟨by rfl, ?_⟩) hHeld ?_
      rotate_left
      · intro w2 hSw
        go_simp
        all_goals rfl
      try simp only [Act.put, List.getElem_toArray, List.getElem_cons_zero, List.getElem_cons_succ, List.setIfInBounds_toArray, List.set_cons_zero, List.set_cons_succ]
      refine wpAnyH_take (i := 4) (v := .agg (entA (T j)).toArray) rfl (by kernel_rfl) (by kernel_rfl) (by kernel_rfl) (fun _ _ _ h => h) (Or.inl ⟨by rfl, ?_⟩) hHeld ?_
      · intro w2 hSw
        exact exec_load rfl rfl (run_loadVar_mid _ b (j * 9) _ (entA (T j)) _ (range_kept9 hr9 hSw) Tryd.underlying47 rfl (ent_size' _))
      try simp only [Act.put, List.getElem_toArray, List.getElem_cons_zero, List.getElem_cons_succ, List.setIfInBounds_toArray, List.set_cons_zero, List.set_cons_succ]
      refine wpAnyH_take (i := 5) (v := .bool (eqE e (T j))) rfl (by kernel_rfl) (by kernel_rfl) (by kernel_rfl) (fun _ _ _ h => h) (Or.inl ⟨by rfl, ?_⟩) hHeld ?_
      · intro w2 hSw
        exact exec_eqE rfl rfl rfl
      try simp only [Act.put, List.getElem_toArray, List.getElem_cons_zero, List.getElem_cons_succ, List.setIfInBounds_toArray, List.set_cons_zero, List.set_cons_succ]
      refine wpAnyH_done (by kernel_rfl) ?_ _
      have hk : Kept w1 wd := hk9.then hHeld
      clear hr9 hE9 hk9 hHeld
      obtain ⟨hkeep, hlt⟩ := hkeep
      cases hx : eqE e (T j)
      · rw [hx] at hj'
        have hn9 := find_step hlt hkeep hj'
        clear hj' hkeep hh
        go_wp2_with fail
        exact ⟨⟨j + 1, by omega, by go_num, hn9, hk⟩, by simp [intOf]; omega⟩
      · rw [hx] at hj'
        have hn9 := find_here hlt hkeep hj'
        clear hj' hkeep hh
        go_wp2_with fail
        go_ret
        exact ⟨by rw [hn9]; rfl, kb.then hk⟩
    · obtain rfl : j = 16 := by omega
      go_wp2
      go_ret
      exact ⟨by rw [find_end hf]; rfl, kb.then hg1⟩
theorem tnamed_any (ht : TlAt w b T) (page : Int) (v : Bool) (asid vmid : Int) :
    Calls Tryd.prog 37 #[.pointer (some ⟨b, 0, none⟩), .agg (nameA page v asid vmid)] w fun r w' => r = .returned (.int .i64 (atT T page v asid vmid)) ∧ Kept w w' := by
  have kb := (Only.refl (fun _ => False) w).alloc (.cells (nameA page v asid vmid) 75)
  have bl : Blk (w.alloc (.cells (nameA page v asid vmid) 75)) w.heap.size 75 (nameA page v asid vmid) := alloc_last w _ _
  go_enter Tryd.func37, Tryd.ntmps37
  go_upto_region 1 with fail
  generalize hw1 : w.alloc (.cells (nameA page v asid vmid) 75) = w1 at *
  generalize w.heap.size = nb at *
  clear hw1
  go_wp2_with (go_at_call 40; refine (tindexf_any (ht.kept kb) bl).mono ?_; rintro r wn ⟨rfl, kn⟩)
  go_ret
  exact ⟨rfl, kb.then kn⟩
end
end Go.Proofs.YtpfblbleendpiaaDoor
