/-
  What translates an access, as the document's own call answers (Ask of the reference): walked whole, for every argument.
-/
import Derived.Test.YtpplclenokfpeaaDoorTwoDoc
import Derived.Test.YtpplclenokfpeaaDoorStBase
import Derived.Laws.ResultCell
import Derived.Deep.WholeRow
import Derived.Deep.RegionHeld3
import Derived.Deep.CutBlock
namespace Go.Proofs.YtpplclenokfpeaaDoor
open Go.RowKit
theorem ask_size (a b c d e f g h : Value) : (Tryd.prog.info? 46).map (·.size) = some (#[a, b, c, d, e, f, g, h] : Array Value).size := by kernel_rfl
theorem ask_ones (a : AskM) : (askA a).all (·.oneCell') = true := by simp [askA, Value.oneCell']
set_option maxRecDepth 10000 in
set_option maxHeartbeats 1000000 in
theorem rbits_of {S : StM} (hS : S.Ok) {i k : Nat} (hi : i < 29) (hk : k < 64) (w : World) :
    Calls Tryd.prog 37 #[.agg (rowOf 65 (stF S)), .int .i64 (i : Int), .int .i64 (k : Int)] w fun e w' => e = .returned (.bool (bitS (S.C i) k)) ∧ Kept w w' := by
  have c1 := (st_new w S).c hi
  have l0 : (0 : Int) ≤ (i : Int) := by omega
  have l1 : (i : Int) < 29 := by omega
  have k0 : (0 : Int) ≤ (k : Int) := by omega
  have k1 : (k : Int) < 64 := by omega
  have u0 := (hS.C i hi).1
  go_enter Tryd.func37, Tryd.ntmps37
  go_wp2
  go_ret
  exact ⟨rfl, (Only.refl _ w).alloc _⟩
/-- A state, the answer's room and the one that the call works in. -/
structure AskR (w0 w : World) (S : StM) (c : Array Value) : Prop where
  k : Kept w0 w
  s : StAt w w0.heap.size S
  r : w.heap[w0.heap.size + 1]? = some (.cells #[.bool false, .bool false, .bool false, .bool false, .int .i64 0, .int .i64 0, .int .i64 0, .int .i64 0] 46 (0, 0))
  l : w.heap[w0.heap.size + 2]? = some (.cells c 46 (0, 0))
theorem AskR.new (w : World) (S : StM) (c : Array Value) : AskR w (((w.alloc (.cells (rowOf 65 (stF S)) 27)).alloc (.cells #[.bool false, .bool false, .bool false, .bool false, .int .i64 0, .int .i64 0, .int .i64 0, .int .i64 0] 46)).alloc (.cells c 46)) S c := by
  have n1 : (w.alloc (.cells (rowOf 65 (stF S)) 27)).heap.size = w.heap.size + 1 := Go.Deep.nblk_alloc _ _
  have n2 : ((w.alloc (.cells (rowOf 65 (stF S)) 27)).alloc (.cells #[.bool false, .bool false, .bool false, .bool false, .int .i64 0, .int .i64 0, .int .i64 0, .int .i64 0] 46)).heap.size = w.heap.size + 2 := by rw [Go.Deep.nblk_alloc, n1]
  have h1 := alloc_last (w.alloc (.cells (rowOf 65 (stF S)) 27)) #[.bool false, .bool false, .bool false, .bool false, .int .i64 0, .int .i64 0, .int .i64 0, .int .i64 0] 46
  rw [n1] at h1
  have h2 := alloc_last ((w.alloc (.cells (rowOf 65 (stF S)) 27)).alloc (.cells #[.bool false, .bool false, .bool false, .bool false, .int .i64 0, .int .i64 0, .int .i64 0, .int .i64 0] 46)) c 46
  rw [n2] at h2
  exact ⟨(((Only.refl _ w).alloc _).alloc _).alloc _, ((st_new w S).alloc _).alloc _, ((Only.refl (fun _ => False) ((w.alloc (.cells (rowOf 65 (stF S)) 27)).alloc (.cells #[.bool false, .bool false, .bool false, .bool false, .int .i64 0, .int .i64 0, .int .i64 0, .int .i64 0] 46))).alloc _).block h1 id, h2⟩
theorem AskR.kept {w0 w w' : World} {S : StM} {c : Array Value} (h : AskR w0 w S c) (g : Kept w w') : AskR w0 w' S c := ⟨h.k.then g, h.s.of_block (g.same _ h.s.lt id), g.block h.r id, g.block h.l id⟩
theorem AskR.cell {w0 w : World} {S : StM} {c : Array Value} (h : AskR w0 w S c) (i : Nat) : w.cell? ⟨w0.heap.size + 2, i, none⟩ = c[i]? := by
  simp [World.cell?, h.l]
theorem AskR.loose {w0 w : World} {S : StM} {c : Array Value} (h : AskR w0 w S c) (i : Nat) : w.frozen? ⟨w0.heap.size + 2, i, none⟩ = false := by
  simp [World.frozen?, h.l]
theorem AskR.set {w0 w : World} {S : StM} {c : Array Value} (h : AskR w0 w S c) (i : Nat) (v : Value) : AskR w0 (w.setCell ⟨w0.heap.size + 2, i, none⟩ v) S (c.setIfInBounds i v) := by
  have ho := Only.setCell (Only.refl (fun j => j = w0.heap.size + 2) w) (x := ⟨w0.heap.size + 2, i, none⟩) rfl v
  refine ⟨h.k.new ho fun i hi => by omega, h.s.of_block (ho.same _ h.s.lt (by omega)), ho.block h.r (by omega), ?_⟩
  show (w.heap.modify (w0.heap.size + 2) _)[w0.heap.size + 2]? = _
  rw [Array.getElem?_modify, if_pos rfl, h.l]
  rfl
theorem AskR.six {w0 w : World} {S : StM} {a : AskM} (h : AskR w0 w S (askA a)) : w.cell? ⟨w0.heap.size + 2, 0, none⟩ = some (.bool a.first) ∧ w.cell? ⟨w0.heap.size + 2, 1, none⟩ = some (.bool a.second) ∧ w.cell? ⟨w0.heap.size + 2, 2, none⟩ = some (.bool a.sum) ∧ w.cell? ⟨w0.heap.size + 2, 3, none⟩ = some (.bool a.mxr) ∧ w.cell? ⟨w0.heap.size + 2, 4, none⟩ = some (.int .i64 a.asid) ∧ w.cell? ⟨w0.heap.size + 2, 5, none⟩ = some (.int .i64 a.vmid) ∧ w.cell? ⟨w0.heap.size + 2, 6, none⟩ = some (.int .i64 a.root) ∧ w.cell? ⟨w0.heap.size + 2, 7, none⟩ = some (.int .i64 a.host) :=
  ⟨h.cell 0, h.cell 1, h.cell 2, h.cell 3, h.cell 4, h.cell 5, h.cell 6, h.cell 7⟩
set_option maxRecDepth 10000 in
set_option maxHeartbeats 1000000 in
theorem rask_mach {S : StM} (v : Bool) (w : World) :
    Calls Tryd.prog 14 #[.agg (rowOf 65 (stF S)), .int .i64 3, .bool v] w fun e w' => e = .returned (.agg (askA ⟨false, false, false, false, 0, 0, 0, 0⟩)) ∧ Kept w w' := by
  have r0 := AskR.new w S #[.bool false, .bool false, .bool false, .bool false, .int .i64 0, .int .i64 0, .int .i64 0, .int .i64 0]
  go_enter Tryd.func14, Tryd.ntmps14
  go_wp2
  refine bodyPost_ret ?_ rfl ⟨rfl, r0.k⟩
  exact results_cell_row rfl _ _ (w.heap.size + 1) 46 _ (0, 0) _ rfl r0.r Tryd.underlying46 rfl (ask_size _ _ _ _ _ _ _ _)
set_option maxRecDepth 10000 in
set_option maxHeartbeats 4000000 in
theorem rask_try {S : StM} (hS : S.Ok) (level : Int) (hl : ¬ level = 3) (v : Bool) (w : World) :
    Calls Tryd.prog 14 #[.agg (rowOf 65 (stF S)), .int .i64 level, .bool v] w fun e w' => e = .returned (.agg (askA (askV (bif v then S.C 28 else S.C 15) (S.C 21) v (bif v then bitS (S.C 22) 18 else bitS (S.C 0) 18) (bif v then bitS (S.C 22) 19 || bitS (S.C 0) 19 else bitS (S.C 0) 19)))) ∧ Kept w w' := by
  have hd : (level == 3) = false := beq_eq_false_iff_ne.2 hl
  have r0 := AskR.new w S #[.bool false, .bool false, .bool false, .bool false, .int .i64 0, .int .i64 0, .int .i64 0, .int .i64 0]
  have c15 := r0.s.c (i := 15) (by omega)
  clear hl
  go_enter Tryd.func14, Tryd.ntmps14
  go_upto_region 5 with fail
  generalize (((w.alloc (.cells (rowOf 65 (stF S)) 27)).alloc (.cells #[.bool false, .bool false, .bool false, .bool false, .int .i64 0, .int .i64 0, .int .i64 0, .int .i64 0] 46)).alloc (.cells #[.bool false, .bool false, .bool false, .bool false, .int .i64 0, .int .i64 0, .int .i64 0, .int .i64 0] 46)) = w1 at r0 ⊢
  have r1d := r0.kept ((Only.refl _ w1).drew)
  go_cut [17] from 17 (fun _ wx => AskR w wx S #[.bool false, .bool false, .bool (bitS (S.C 0) 18), .bool (bitS (S.C 0) 19), .int .i64 0, .int .i64 0, .int .i64 0, .int .i64 0])
  case first =>
    refine wp_region_held_drew (S := fun w2' => StAt w2' w.heap.size S) (by kernel_rfl) r1d.s (fun hHeld => ?_)
    generalize w1.drew = wd at r1d hHeld ⊢
    refine wpAnyH_take (i := 0) (v := .agg (rowOf 65 (stF S))) rfl (by kernel_rfl) (by kernel_rfl) (by kernel_rfl) (fun _ _ _ h => h) (Or.inl ⟨by rfl, ?_⟩) hHeld ?_
    · intro w2 hSw
      exact exec_load rfl rfl (load_row hSw _ Tryd.underlying27 rfl st_size)
    simp only [Act.put, List.getElem_toArray, List.getElem_cons_zero, List.setIfInBounds_toArray, List.set_cons_zero, List.set_cons_succ]
    refine wpAnyH_take (i := 2) (v := .agg (rowOf 65 (stF S))) rfl (by kernel_rfl) (by kernel_rfl) (by kernel_rfl) (fun _ _ _ h => h) (Or.inl ⟨by rfl, ?_⟩) hHeld ?_
    · intro w2 hSw
      exact exec_load rfl rfl (load_row hSw _ Tryd.underlying27 rfl st_size)
    simp only [Act.put, List.getElem_toArray, List.getElem_cons_zero, List.getElem_cons_succ, List.setIfInBounds_toArray, List.set_cons_zero, List.set_cons_succ]
    refine wpAnyH_ready (rs := [1]) (by kernel_rfl) (by simp) ?_
    refine AllReadyH.cons rfl (fun K hK => ?_) AllReadyH.nil
    go_simp
    refine (rbits_of hS (i := 0) (k := 18) (by omega) (by omega) _).mono ?_
    rintro e wa ⟨rfl, ka⟩
    have rwa := r1d.kept ka
    go_simp
    refine hK.out _ _ rwa.s (fun hHeld => ?_)
    clear hK K
    try simp only [Act.put, List.setIfInBounds_toArray, List.set_cons_zero, List.set_cons_succ]
    refine wpAnyH_take (i := 4) (v := ?_) rfl (by kernel_rfl) (by kernel_rfl) (by kernel_rfl) (fun _ _ _ h => h) (Or.inl ⟨by rfl, ?_⟩) hHeld ?_
    rotate_left
    · intro w2 hSw
      go_simp
      all_goals rfl
    simp only [Act.put, List.getElem_toArray, List.getElem_cons_zero, List.getElem_cons_succ, List.setIfInBounds_toArray, List.set_cons_zero, List.set_cons_succ]
    refine wpAnyH_ready (rs := [3]) (by kernel_rfl) (by simp) ?_
    refine AllReadyH.cons rfl (fun K hK => ?_) AllReadyH.nil
    go_simp
    refine (rbits_of hS (i := 0) (k := 19) (by omega) (by omega) _).mono ?_
    rintro e wb ⟨rfl, kb⟩
    have rwb := rwa.kept kb
    go_simp
    refine hK.out _ _ rwb.s (fun hHeld => ?_)
    clear hK K
    try simp only [Act.put, List.setIfInBounds_toArray, List.set_cons_zero, List.set_cons_succ]
    refine wpAnyH_ready (rs := [5]) (by kernel_rfl) (by simp) ?_
    refine AllReadyH.cons rfl (fun K hK => ?_) AllReadyH.nil
    have zq6 : _ := rwb.cell 2
    have yq6 := rwb.loose 2
    go_simp
    have q6 := rwb.set 2 (.bool (bitS (S.C 0) 18))
    refine hK.out _ _ q6.s (fun hHeld => ?_)
    clear hK K
    try simp only [Act.put, List.setIfInBounds_toArray, List.set_cons_zero, List.set_cons_succ]
    refine wpAnyH_take (i := 6) (v := ?_) rfl (by kernel_rfl) (by kernel_rfl) (by kernel_rfl) (fun _ _ _ h => h) (Or.inl ⟨by rfl, ?_⟩) hHeld ?_
    rotate_left
    · intro w2 hSw
      go_simp
      all_goals rfl
    simp only [Act.put, List.getElem_toArray, List.getElem_cons_zero, List.getElem_cons_succ, List.setIfInBounds_toArray, List.set_cons_zero, List.set_cons_succ]
    refine wpAnyH_ready (rs := [7]) (by kernel_rfl) (by simp) ?_
    refine AllReadyH.cons rfl (fun K hK => ?_) AllReadyH.nil
    have zq7 : _ := q6.cell 3
    have yq7 := q6.loose 3
    go_simp
    have q7 := q6.set 3 (.bool (bitS (S.C 0) 19))
    refine hK.out _ _ q7.s (fun hHeld => ?_)
    clear hK K
    try simp only [Act.put, List.setIfInBounds_toArray, List.set_cons_zero, List.set_cons_succ]
    refine wpAnyH_done (by kernel_rfl) ?_ _
    go_wp2_with fail
    go_meet
    exact q7
  case rest =>
    cases v
    · have r5 : AskR w wc S #[.bool false, .bool false, .bool (bitS (S.C 0) 18), .bool (bitS (S.C 0) 19), .int .i64 0, .int .i64 0, .int .i64 0, .int .i64 0] := hcut
      have d0 := r5.cell 0
      have d1 := r5.cell 1
      have d4 := r5.cell 4
      have d5 := r5.cell 5
      have d6 := r5.cell 6
      have d7 := r5.cell 7
      have f0 := r5.loose 0
      have f1 := r5.loose 1
      have f4 := r5.loose 4
      have f5 := r5.loose 5
      have f6 := r5.loose 6
      have f7 := r5.loose 7
      have ea : bits .and .u64 (S.C 15 / 65536) 255 = S.C 15 / 65536 % 256 := u_low (S.C 15 / 65536) 8 (by omega) 255 rfl
      have eb : bits .and .u64 (S.C 15) 255 = S.C 15 % 256 := u_low (S.C 15) 8 (by omega) 255 rfl
      have l0 : 0 ≤ S.C 15 / 65536 % 256 := by omega
      have l1 : S.C 15 / 65536 % 256 < 256 := by omega
      have l2 : 0 ≤ S.C 15 % 256 := by omega
      have l3 : S.C 15 % 256 < 256 := by omega
      cases hf : (S.C 15 / 2 ^ 63 == 1)
      · have hf2 : (S.C 15 / 9223372036854775808 == 1) = false := hf
        go_upto_region 14 with fail
        have r3 := r5
        generalize wc = w3 at r3 ⊢
        have x0 : w3.cell? ⟨w.heap.size + 2, 0, none⟩ = some (.bool false) := r3.cell 0
        have x1 : w3.cell? ⟨w.heap.size + 2, 1, none⟩ = some (.bool false) := r3.cell 1
        have x2 : w3.cell? ⟨w.heap.size + 2, 2, none⟩ = some (.bool (bitS (S.C 0) 18)) := r3.cell 2
        have x3 : w3.cell? ⟨w.heap.size + 2, 3, none⟩ = some (.bool (bitS (S.C 0) 19)) := r3.cell 3
        have x4 : w3.cell? ⟨w.heap.size + 2, 4, none⟩ = some (.int .i64 0) := r3.cell 4
        have x5 : w3.cell? ⟨w.heap.size + 2, 5, none⟩ = some (.int .i64 0) := r3.cell 5
        have x6 : w3.cell? ⟨w.heap.size + 2, 6, none⟩ = some (.int .i64 0) := r3.cell 6
        have x7 : w3.cell? ⟨w.heap.size + 2, 7, none⟩ = some (.int .i64 0) := r3.cell 7
        have hsum : ((#[.bool false, .bool false, .bool (bitS (S.C 0) 18), .bool (bitS (S.C 0) 19), .int .i64 0, .int .i64 0, .int .i64 0, .int .i64 0] : Array Value)).all (·.oneCell') = true := by simp [Value.oneCell']
        go_wp2_with (refine wpList_store_row rfl 46 _ _ rfl (w.heap.size + 1) #[.bool false, .bool false, .bool (bitS (S.C 0) 18), .bool (bitS (S.C 0) 19), .int .i64 0, .int .i64 0, .int .i64 0, .int .i64 0] rfl rfl 46 _ r3.r (ask_size _ _ _ _ _ _ _ _) rfl hsum ?_)
        refine bodyPost_ret (results_cell_row rfl _ _ (w.heap.size + 1) 46 _ (0, 0) _ rfl (setRow_heap _ _ _ _ _ _ r3.r) Tryd.underlying46 rfl (ask_size _ _ _ _ _ _ _ _)) rfl ⟨?_, r3.k.new ((Only.refl (fun i => i = w.heap.size + 1) w3).setRow rfl _) fun i hi => by omega⟩
        show Ending.returned (.agg #[.bool false, .bool false, .bool (bitS (S.C 0) 18), .bool (bitS (S.C 0) 19), .int .i64 0, .int .i64 0, .int .i64 0, .int .i64 0]) = .returned (.agg (askA (askV (S.C 15) (S.C 21) false (bitS (S.C 0) 18) (bitS (S.C 0) 19))))
        unfold askA askV
        rw [hf]
        rfl
      · have hf2 : (S.C 15 / 9223372036854775808 == 1) = true := hf
        go_upto_region 14 with fail
        have r3 := (((r5).set 0 (.bool true)).set 4 (.int .i64 (S.C 15 / 65536 % 256))).set 6 (.int .i64 (S.C 15 % 256))
        generalize (((wc).setCell ⟨w.heap.size + 2, 0, none⟩ (.bool true)).setCell ⟨w.heap.size + 2, 4, none⟩ (.int .i64 (S.C 15 / 65536 % 256))).setCell ⟨w.heap.size + 2, 6, none⟩ (.int .i64 (S.C 15 % 256)) = w3 at r3 ⊢
        have x0 : w3.cell? ⟨w.heap.size + 2, 0, none⟩ = some (.bool true) := r3.cell 0
        have x1 : w3.cell? ⟨w.heap.size + 2, 1, none⟩ = some (.bool false) := r3.cell 1
        have x2 : w3.cell? ⟨w.heap.size + 2, 2, none⟩ = some (.bool (bitS (S.C 0) 18)) := r3.cell 2
        have x3 : w3.cell? ⟨w.heap.size + 2, 3, none⟩ = some (.bool (bitS (S.C 0) 19)) := r3.cell 3
        have x4 : w3.cell? ⟨w.heap.size + 2, 4, none⟩ = some (.int .i64 (S.C 15 / 65536 % 256)) := r3.cell 4
        have x5 : w3.cell? ⟨w.heap.size + 2, 5, none⟩ = some (.int .i64 0) := r3.cell 5
        have x6 : w3.cell? ⟨w.heap.size + 2, 6, none⟩ = some (.int .i64 (S.C 15 % 256)) := r3.cell 6
        have x7 : w3.cell? ⟨w.heap.size + 2, 7, none⟩ = some (.int .i64 0) := r3.cell 7
        have hsum : ((#[.bool true, .bool false, .bool (bitS (S.C 0) 18), .bool (bitS (S.C 0) 19), .int .i64 (S.C 15 / 65536 % 256), .int .i64 0, .int .i64 (S.C 15 % 256), .int .i64 0] : Array Value)).all (·.oneCell') = true := by simp [Value.oneCell']
        go_wp2_with (refine wpList_store_row rfl 46 _ _ rfl (w.heap.size + 1) #[.bool true, .bool false, .bool (bitS (S.C 0) 18), .bool (bitS (S.C 0) 19), .int .i64 (S.C 15 / 65536 % 256), .int .i64 0, .int .i64 (S.C 15 % 256), .int .i64 0] rfl rfl 46 _ r3.r (ask_size _ _ _ _ _ _ _ _) rfl hsum ?_)
        refine bodyPost_ret (results_cell_row rfl _ _ (w.heap.size + 1) 46 _ (0, 0) _ rfl (setRow_heap _ _ _ _ _ _ r3.r) Tryd.underlying46 rfl (ask_size _ _ _ _ _ _ _ _)) rfl ⟨?_, r3.k.new ((Only.refl (fun i => i = w.heap.size + 1) w3).setRow rfl _) fun i hi => by omega⟩
        show Ending.returned (.agg #[.bool true, .bool false, .bool (bitS (S.C 0) 18), .bool (bitS (S.C 0) 19), .int .i64 (S.C 15 / 65536 % 256), .int .i64 0, .int .i64 (S.C 15 % 256), .int .i64 0]) = .returned (.agg (askA (askV (S.C 15) (S.C 21) false (bitS (S.C 0) 18) (bitS (S.C 0) 19))))
        unfold askA askV
        rw [hf]
        rfl
    · have r5 : AskR w wc S #[.bool false, .bool false, .bool (bitS (S.C 0) 18), .bool (bitS (S.C 0) 19), .int .i64 0, .int .i64 0, .int .i64 0, .int .i64 0] := hcut
      have c28 := r5.s.c (i := 28) (by omega)
      go_upto_region 8 with fail
      generalize hw8 : wc = w8 at r5 c28 ⊢
      have r8d := r5.kept ((Only.refl _ w8).drew)
      go_cut [27] from 27 (fun _ wx => AskR w wx S #[.bool false, .bool false, .bool (bitS (S.C 22) 18), .bool (bitS (S.C 22) 19 || bitS (S.C 0) 19), .int .i64 0, .int .i64 0, .int .i64 0, .int .i64 0])
      case first =>
        cases hm : bitS (S.C 22) 19
        · refine wp_region_held_drew (S := fun w2' => StAt w2' w.heap.size S) (by kernel_rfl) r8d.s (fun hHeld => ?_)
          generalize w8.drew = wd at r8d hHeld ⊢
          refine wpAnyH_take (i := 0) (v := .agg (rowOf 65 (stF S))) rfl (by kernel_rfl) (by kernel_rfl) (by kernel_rfl) (fun _ _ _ h => h) (Or.inl ⟨by rfl, ?_⟩) hHeld ?_
          · intro w2 hSw
            exact exec_load rfl rfl (load_row hSw _ Tryd.underlying27 rfl st_size)
          simp only [Act.put, List.getElem_toArray, List.getElem_cons_zero, List.setIfInBounds_toArray, List.set_cons_zero, List.set_cons_succ]
          refine wpAnyH_take (i := 2) (v := .agg (rowOf 65 (stF S))) rfl (by kernel_rfl) (by kernel_rfl) (by kernel_rfl) (fun _ _ _ h => h) (Or.inl ⟨by rfl, ?_⟩) hHeld ?_
          · intro w2 hSw
            exact exec_load rfl rfl (load_row hSw _ Tryd.underlying27 rfl st_size)
          simp only [Act.put, List.getElem_toArray, List.getElem_cons_zero, List.getElem_cons_succ, List.setIfInBounds_toArray, List.set_cons_zero, List.set_cons_succ]
          refine wpAnyH_ready (rs := [1]) (by kernel_rfl) (by simp) ?_
          refine AllReadyH.cons rfl (fun K hK => ?_) AllReadyH.nil
          go_simp
          refine (rbits_of hS (i := 22) (k := 18) (by omega) (by omega) _).mono ?_
          rintro e wa ⟨rfl, ka⟩
          have rwa := r8d.kept ka
          go_simp
          refine hK.out _ _ rwa.s (fun hHeld => ?_)
          clear hK K
          try simp only [Act.put, List.setIfInBounds_toArray, List.set_cons_zero, List.set_cons_succ]
          refine wpAnyH_ready (rs := [3]) (by kernel_rfl) (by simp) ?_
          refine AllReadyH.cons rfl (fun K hK => ?_) AllReadyH.nil
          go_simp
          refine (rbits_of hS (i := 22) (k := 19) (by omega) (by omega) _).mono ?_
          rintro e wb ⟨rfl, kb⟩
          rw [hm]
          have rwb := rwa.kept kb
          go_simp
          refine hK.out _ _ rwb.s (fun hHeld => ?_)
          clear hK K
          try simp only [Act.put, List.setIfInBounds_toArray, List.set_cons_zero, List.set_cons_succ]
          refine wpAnyH_take (i := 4) (v := ?_) rfl (by kernel_rfl) (by kernel_rfl) (by kernel_rfl) (fun _ _ _ h => h) (Or.inl ⟨by rfl, ?_⟩) hHeld ?_
          rotate_left
          · intro w2 hSw
            go_simp
            all_goals rfl
          simp only [Act.put, List.getElem_toArray, List.getElem_cons_zero, List.getElem_cons_succ, List.setIfInBounds_toArray, List.set_cons_zero, List.set_cons_succ]
          refine wpAnyH_take (i := 5) (v := ?_) rfl (by kernel_rfl) (by kernel_rfl) (by kernel_rfl) (fun _ _ _ h => h) (Or.inl ⟨by rfl, ?_⟩) hHeld ?_
          rotate_left
          · intro w2 hSw
            go_simp
            all_goals rfl
          simp only [Act.put, List.getElem_toArray, List.getElem_cons_zero, List.getElem_cons_succ, List.setIfInBounds_toArray, List.set_cons_zero, List.set_cons_succ]
          refine wpAnyH_ready (rs := [6]) (by kernel_rfl) (by simp) ?_
          refine AllReadyH.cons rfl (fun K hK => ?_) AllReadyH.nil
          have x6 := rwb.cell 3
          go_simp
          refine hK.out _ _ rwb.s (fun hHeld => ?_)
          clear hK K
          try simp only [Act.put, List.setIfInBounds_toArray, List.set_cons_zero, List.set_cons_succ]
          refine wpAnyH_take (i := 7) (v := ?_) rfl (by kernel_rfl) (by kernel_rfl) (by kernel_rfl) (fun _ _ _ h => h) (Or.inl ⟨by rfl, ?_⟩) hHeld ?_
          rotate_left
          · intro w2 hSw
            go_simp
            all_goals rfl
          simp only [Act.put, List.getElem_toArray, List.getElem_cons_zero, List.getElem_cons_succ, List.setIfInBounds_toArray, List.set_cons_zero, List.set_cons_succ]
          refine wpAnyH_take (i := 8) (v := ?_) rfl (by kernel_rfl) (by kernel_rfl) (by kernel_rfl) (fun _ _ _ h => h) (Or.inl ⟨by rfl, ?_⟩) hHeld ?_
          rotate_left
          · intro w2 hSw
            go_simp
            all_goals rfl
          simp only [Act.put, List.getElem_toArray, List.getElem_cons_zero, List.getElem_cons_succ, List.setIfInBounds_toArray, List.set_cons_zero, List.set_cons_succ]
          refine wpAnyH_ready (rs := [9]) (by kernel_rfl) (by simp) ?_
          refine AllReadyH.cons rfl (fun K hK => ?_) AllReadyH.nil
          have zq6 : _ := rwb.cell 2
          have yq6 := rwb.loose 2
          go_simp
          have q6 := rwb.set 2 (.bool (bitS (S.C 22) 18))
          refine hK.out _ _ q6.s (fun hHeld => ?_)
          clear hK K
          try simp only [Act.put, List.setIfInBounds_toArray, List.set_cons_zero, List.set_cons_succ]
          refine wpAnyH_take (i := 10) (v := ?_) rfl (by kernel_rfl) (by kernel_rfl) (by kernel_rfl) (fun _ _ _ h => h) (Or.inl ⟨by rfl, ?_⟩) hHeld ?_
          rotate_left
          · intro w2 hSw
            go_simp
            all_goals rfl
          simp only [Act.put, List.getElem_toArray, List.getElem_cons_zero, List.getElem_cons_succ, List.setIfInBounds_toArray, List.set_cons_zero, List.set_cons_succ]
          refine wpAnyH_ready (rs := [11]) (by kernel_rfl) (by simp) ?_
          refine AllReadyH.cons rfl (fun K hK => ?_) AllReadyH.nil
          have zq7 : _ := q6.cell 3
          have yq7 := q6.loose 3
          go_simp
          have q7 := q6.set 3 (.bool (bitS (S.C 0) 19))
          refine hK.out _ _ q7.s (fun hHeld => ?_)
          clear hK K
          try simp only [Act.put, List.setIfInBounds_toArray, List.set_cons_zero, List.set_cons_succ]
          refine wpAnyH_done (by kernel_rfl) ?_ _
          go_wp2_with fail
          go_meet
          rw [hm]
          exact q7
        · refine wp_region_held_drew (S := fun w2' => StAt w2' w.heap.size S) (by kernel_rfl) r8d.s (fun hHeld => ?_)
          generalize w8.drew = wd at r8d hHeld ⊢
          refine wpAnyH_take (i := 0) (v := .agg (rowOf 65 (stF S))) rfl (by kernel_rfl) (by kernel_rfl) (by kernel_rfl) (fun _ _ _ h => h) (Or.inl ⟨by rfl, ?_⟩) hHeld ?_
          · intro w2 hSw
            exact exec_load rfl rfl (load_row hSw _ Tryd.underlying27 rfl st_size)
          simp only [Act.put, List.getElem_toArray, List.getElem_cons_zero, List.setIfInBounds_toArray, List.set_cons_zero, List.set_cons_succ]
          refine wpAnyH_take (i := 2) (v := .agg (rowOf 65 (stF S))) rfl (by kernel_rfl) (by kernel_rfl) (by kernel_rfl) (fun _ _ _ h => h) (Or.inl ⟨by rfl, ?_⟩) hHeld ?_
          · intro w2 hSw
            exact exec_load rfl rfl (load_row hSw _ Tryd.underlying27 rfl st_size)
          simp only [Act.put, List.getElem_toArray, List.getElem_cons_zero, List.getElem_cons_succ, List.setIfInBounds_toArray, List.set_cons_zero, List.set_cons_succ]
          refine wpAnyH_ready (rs := [1]) (by kernel_rfl) (by simp) ?_
          refine AllReadyH.cons rfl (fun K hK => ?_) AllReadyH.nil
          go_simp
          refine (rbits_of hS (i := 22) (k := 18) (by omega) (by omega) _).mono ?_
          rintro e wa ⟨rfl, ka⟩
          have rwa := r8d.kept ka
          go_simp
          refine hK.out _ _ rwa.s (fun hHeld => ?_)
          clear hK K
          try simp only [Act.put, List.setIfInBounds_toArray, List.set_cons_zero, List.set_cons_succ]
          refine wpAnyH_ready (rs := [3]) (by kernel_rfl) (by simp) ?_
          refine AllReadyH.cons rfl (fun K hK => ?_) AllReadyH.nil
          go_simp
          refine (rbits_of hS (i := 22) (k := 19) (by omega) (by omega) _).mono ?_
          rintro e wb ⟨rfl, kb⟩
          rw [hm]
          have rwb := rwa.kept kb
          go_simp
          refine hK.out _ _ rwb.s (fun hHeld => ?_)
          clear hK K
          try simp only [Act.put, List.setIfInBounds_toArray, List.set_cons_zero, List.set_cons_succ]
          refine wpAnyH_take (i := 4) (v := ?_) rfl (by kernel_rfl) (by kernel_rfl) (by kernel_rfl) (fun _ _ _ h => h) (Or.inl ⟨by rfl, ?_⟩) hHeld ?_
          rotate_left
          · intro w2 hSw
            go_simp
            all_goals rfl
          simp only [Act.put, List.getElem_toArray, List.getElem_cons_zero, List.getElem_cons_succ, List.setIfInBounds_toArray, List.set_cons_zero, List.set_cons_succ]
          refine wpAnyH_take (i := 5) (v := undef) rfl (by kernel_rfl) (by kernel_rfl) (by kernel_rfl) (fun _ _ _ h => h) (Or.inr ⟨by rfl, rfl⟩) hHeld ?_
          simp only [Act.put, List.getElem_toArray, List.getElem_cons_zero, List.getElem_cons_succ, List.setIfInBounds_toArray, List.set_cons_zero, List.set_cons_succ]
          refine wpAnyH_take (i := 6) (v := undef) rfl (by kernel_rfl) (by kernel_rfl) (by kernel_rfl) (fun _ _ _ h => h) (Or.inr ⟨by rfl, rfl⟩) hHeld ?_
          simp only [Act.put, List.getElem_toArray, List.getElem_cons_zero, List.getElem_cons_succ, List.setIfInBounds_toArray, List.set_cons_zero, List.set_cons_succ]
          refine wpAnyH_take (i := 7) (v := ?_) rfl (by kernel_rfl) (by kernel_rfl) (by kernel_rfl) (fun _ _ _ h => h) (Or.inl ⟨by rfl, ?_⟩) hHeld ?_
          rotate_left
          · intro w2 hSw
            go_simp
            all_goals rfl
          simp only [Act.put, List.getElem_toArray, List.getElem_cons_zero, List.getElem_cons_succ, List.setIfInBounds_toArray, List.set_cons_zero, List.set_cons_succ]
          refine wpAnyH_take (i := 8) (v := ?_) rfl (by kernel_rfl) (by kernel_rfl) (by kernel_rfl) (fun _ _ _ h => h) (Or.inl ⟨by rfl, ?_⟩) hHeld ?_
          rotate_left
          · intro w2 hSw
            go_simp
            all_goals rfl
          simp only [Act.put, List.getElem_toArray, List.getElem_cons_zero, List.getElem_cons_succ, List.setIfInBounds_toArray, List.set_cons_zero, List.set_cons_succ]
          refine wpAnyH_ready (rs := [9]) (by kernel_rfl) (by simp) ?_
          refine AllReadyH.cons rfl (fun K hK => ?_) AllReadyH.nil
          have zq6 : _ := rwb.cell 2
          have yq6 := rwb.loose 2
          go_simp
          have q6 := rwb.set 2 (.bool (bitS (S.C 22) 18))
          refine hK.out _ _ q6.s (fun hHeld => ?_)
          clear hK K
          try simp only [Act.put, List.setIfInBounds_toArray, List.set_cons_zero, List.set_cons_succ]
          refine wpAnyH_take (i := 10) (v := ?_) rfl (by kernel_rfl) (by kernel_rfl) (by kernel_rfl) (fun _ _ _ h => h) (Or.inl ⟨by rfl, ?_⟩) hHeld ?_
          rotate_left
          · intro w2 hSw
            go_simp
            all_goals rfl
          simp only [Act.put, List.getElem_toArray, List.getElem_cons_zero, List.getElem_cons_succ, List.setIfInBounds_toArray, List.set_cons_zero, List.set_cons_succ]
          refine wpAnyH_ready (rs := [11]) (by kernel_rfl) (by simp) ?_
          refine AllReadyH.cons rfl (fun K hK => ?_) AllReadyH.nil
          have zq7 : _ := q6.cell 3
          have yq7 := q6.loose 3
          go_simp
          have q7 := q6.set 3 (.bool true)
          refine hK.out _ _ q7.s (fun hHeld => ?_)
          clear hK K
          try simp only [Act.put, List.setIfInBounds_toArray, List.set_cons_zero, List.set_cons_succ]
          refine wpAnyH_done (by kernel_rfl) ?_ _
          go_wp2_with fail
          go_meet
          rw [hm]
          exact q7
      case rest =>
        have r5 : AskR w wc S #[.bool false, .bool false, .bool (bitS (S.C 22) 18), .bool (bitS (S.C 22) 19 || bitS (S.C 0) 19), .int .i64 0, .int .i64 0, .int .i64 0, .int .i64 0] := hcut
        have d0 := r5.cell 0
        have d1 := r5.cell 1
        have d4 := r5.cell 4
        have d5 := r5.cell 5
        have d6 := r5.cell 6
        have d7 := r5.cell 7
        have f0 := r5.loose 0
        have f1 := r5.loose 1
        have f4 := r5.loose 4
        have f5 := r5.loose 5
        have f6 := r5.loose 6
        have f7 := r5.loose 7
        have c21 := r5.s.c (i := 21) (by omega)
        have ga : bits .and .u64 (S.C 21 / 65536) 255 = S.C 21 / 65536 % 256 := u_low (S.C 21 / 65536) 8 (by omega) 255 rfl
        have gb : bits .and .u64 (S.C 21) 255 = S.C 21 % 256 := u_low (S.C 21) 8 (by omega) 255 rfl
        have m0 : 0 ≤ S.C 21 / 65536 % 256 := by omega
        have m1 : S.C 21 / 65536 % 256 < 256 := by omega
        have m2 : 0 ≤ S.C 21 % 256 := by omega
        have m3 : S.C 21 % 256 < 256 := by omega
        cases hh : (S.C 21 / 2 ^ 63 == 1)
        · have hh2 : (S.C 21 / 9223372036854775808 == 1) = false := hh
          have ea : bits .and .u64 (S.C 28 / 65536) 255 = S.C 28 / 65536 % 256 := u_low (S.C 28 / 65536) 8 (by omega) 255 rfl
          have eb : bits .and .u64 (S.C 28) 255 = S.C 28 % 256 := u_low (S.C 28) 8 (by omega) 255 rfl
          have l0 : 0 ≤ S.C 28 / 65536 % 256 := by omega
          have l1 : S.C 28 / 65536 % 256 < 256 := by omega
          have l2 : 0 ≤ S.C 28 % 256 := by omega
          have l3 : S.C 28 % 256 < 256 := by omega
          cases hf : (S.C 28 / 2 ^ 63 == 1)
          · have hf2 : (S.C 28 / 9223372036854775808 == 1) = false := hf
            go_upto_region 14 with fail
            have r3 := r5
            generalize wc = w3 at r3 ⊢
            have x0 : w3.cell? ⟨w.heap.size + 2, 0, none⟩ = some (.bool false) := r3.cell 0
            have x1 : w3.cell? ⟨w.heap.size + 2, 1, none⟩ = some (.bool false) := r3.cell 1
            have x2 : w3.cell? ⟨w.heap.size + 2, 2, none⟩ = some (.bool (bitS (S.C 22) 18)) := r3.cell 2
            have x3 : w3.cell? ⟨w.heap.size + 2, 3, none⟩ = some (.bool (bitS (S.C 22) 19 || bitS (S.C 0) 19)) := r3.cell 3
            have x4 : w3.cell? ⟨w.heap.size + 2, 4, none⟩ = some (.int .i64 0) := r3.cell 4
            have x5 : w3.cell? ⟨w.heap.size + 2, 5, none⟩ = some (.int .i64 0) := r3.cell 5
            have x6 : w3.cell? ⟨w.heap.size + 2, 6, none⟩ = some (.int .i64 0) := r3.cell 6
            have x7 : w3.cell? ⟨w.heap.size + 2, 7, none⟩ = some (.int .i64 0) := r3.cell 7
            have hsum : ((#[.bool false, .bool false, .bool (bitS (S.C 22) 18), .bool (bitS (S.C 22) 19 || bitS (S.C 0) 19), .int .i64 0, .int .i64 0, .int .i64 0, .int .i64 0] : Array Value)).all (·.oneCell') = true := by simp [Value.oneCell']
            go_wp2_with (refine wpList_store_row rfl 46 _ _ rfl (w.heap.size + 1) #[.bool false, .bool false, .bool (bitS (S.C 22) 18), .bool (bitS (S.C 22) 19 || bitS (S.C 0) 19), .int .i64 0, .int .i64 0, .int .i64 0, .int .i64 0] rfl rfl 46 _ r3.r (ask_size _ _ _ _ _ _ _ _) rfl hsum ?_)
            refine bodyPost_ret (results_cell_row rfl _ _ (w.heap.size + 1) 46 _ (0, 0) _ rfl (setRow_heap _ _ _ _ _ _ r3.r) Tryd.underlying46 rfl (ask_size _ _ _ _ _ _ _ _)) rfl ⟨?_, r3.k.new ((Only.refl (fun i => i = w.heap.size + 1) w3).setRow rfl _) fun i hi => by omega⟩
            show Ending.returned (.agg #[.bool false, .bool false, .bool (bitS (S.C 22) 18), .bool (bitS (S.C 22) 19 || bitS (S.C 0) 19), .int .i64 0, .int .i64 0, .int .i64 0, .int .i64 0]) = .returned (.agg (askA (askV (S.C 28) (S.C 21) true (bitS (S.C 22) 18) (bitS (S.C 22) 19 || bitS (S.C 0) 19))))
            unfold askA askV
            rw [hf, hh]
            rfl
          · have hf2 : (S.C 28 / 9223372036854775808 == 1) = true := hf
            go_upto_region 14 with fail
            have r3 := (((r5).set 0 (.bool true)).set 4 (.int .i64 (S.C 28 / 65536 % 256))).set 6 (.int .i64 (S.C 28 % 256))
            generalize (((wc).setCell ⟨w.heap.size + 2, 0, none⟩ (.bool true)).setCell ⟨w.heap.size + 2, 4, none⟩ (.int .i64 (S.C 28 / 65536 % 256))).setCell ⟨w.heap.size + 2, 6, none⟩ (.int .i64 (S.C 28 % 256)) = w3 at r3 ⊢
            have x0 : w3.cell? ⟨w.heap.size + 2, 0, none⟩ = some (.bool true) := r3.cell 0
            have x1 : w3.cell? ⟨w.heap.size + 2, 1, none⟩ = some (.bool false) := r3.cell 1
            have x2 : w3.cell? ⟨w.heap.size + 2, 2, none⟩ = some (.bool (bitS (S.C 22) 18)) := r3.cell 2
            have x3 : w3.cell? ⟨w.heap.size + 2, 3, none⟩ = some (.bool (bitS (S.C 22) 19 || bitS (S.C 0) 19)) := r3.cell 3
            have x4 : w3.cell? ⟨w.heap.size + 2, 4, none⟩ = some (.int .i64 (S.C 28 / 65536 % 256)) := r3.cell 4
            have x5 : w3.cell? ⟨w.heap.size + 2, 5, none⟩ = some (.int .i64 0) := r3.cell 5
            have x6 : w3.cell? ⟨w.heap.size + 2, 6, none⟩ = some (.int .i64 (S.C 28 % 256)) := r3.cell 6
            have x7 : w3.cell? ⟨w.heap.size + 2, 7, none⟩ = some (.int .i64 0) := r3.cell 7
            have hsum : ((#[.bool true, .bool false, .bool (bitS (S.C 22) 18), .bool (bitS (S.C 22) 19 || bitS (S.C 0) 19), .int .i64 (S.C 28 / 65536 % 256), .int .i64 0, .int .i64 (S.C 28 % 256), .int .i64 0] : Array Value)).all (·.oneCell') = true := by simp [Value.oneCell']
            go_wp2_with (refine wpList_store_row rfl 46 _ _ rfl (w.heap.size + 1) #[.bool true, .bool false, .bool (bitS (S.C 22) 18), .bool (bitS (S.C 22) 19 || bitS (S.C 0) 19), .int .i64 (S.C 28 / 65536 % 256), .int .i64 0, .int .i64 (S.C 28 % 256), .int .i64 0] rfl rfl 46 _ r3.r (ask_size _ _ _ _ _ _ _ _) rfl hsum ?_)
            refine bodyPost_ret (results_cell_row rfl _ _ (w.heap.size + 1) 46 _ (0, 0) _ rfl (setRow_heap _ _ _ _ _ _ r3.r) Tryd.underlying46 rfl (ask_size _ _ _ _ _ _ _ _)) rfl ⟨?_, r3.k.new ((Only.refl (fun i => i = w.heap.size + 1) w3).setRow rfl _) fun i hi => by omega⟩
            show Ending.returned (.agg #[.bool true, .bool false, .bool (bitS (S.C 22) 18), .bool (bitS (S.C 22) 19 || bitS (S.C 0) 19), .int .i64 (S.C 28 / 65536 % 256), .int .i64 0, .int .i64 (S.C 28 % 256), .int .i64 0]) = .returned (.agg (askA (askV (S.C 28) (S.C 21) true (bitS (S.C 22) 18) (bitS (S.C 22) 19 || bitS (S.C 0) 19))))
            unfold askA askV
            rw [hf, hh]
            rfl
        · have hh2 : (S.C 21 / 9223372036854775808 == 1) = true := hh
          have ea : bits .and .u64 (S.C 28 / 65536) 255 = S.C 28 / 65536 % 256 := u_low (S.C 28 / 65536) 8 (by omega) 255 rfl
          have eb : bits .and .u64 (S.C 28) 255 = S.C 28 % 256 := u_low (S.C 28) 8 (by omega) 255 rfl
          have l0 : 0 ≤ S.C 28 / 65536 % 256 := by omega
          have l1 : S.C 28 / 65536 % 256 < 256 := by omega
          have l2 : 0 ≤ S.C 28 % 256 := by omega
          have l3 : S.C 28 % 256 < 256 := by omega
          cases hf : (S.C 28 / 2 ^ 63 == 1)
          · have hf2 : (S.C 28 / 9223372036854775808 == 1) = false := hf
            go_upto_region 14 with fail
            have r3 := (((r5).set 1 (.bool true)).set 5 (.int .i64 (S.C 21 / 65536 % 256))).set 7 (.int .i64 (S.C 21 % 256))
            generalize (((wc).setCell ⟨w.heap.size + 2, 1, none⟩ (.bool true)).setCell ⟨w.heap.size + 2, 5, none⟩ (.int .i64 (S.C 21 / 65536 % 256))).setCell ⟨w.heap.size + 2, 7, none⟩ (.int .i64 (S.C 21 % 256)) = w3 at r3 ⊢
            have x0 : w3.cell? ⟨w.heap.size + 2, 0, none⟩ = some (.bool false) := r3.cell 0
            have x1 : w3.cell? ⟨w.heap.size + 2, 1, none⟩ = some (.bool true) := r3.cell 1
            have x2 : w3.cell? ⟨w.heap.size + 2, 2, none⟩ = some (.bool (bitS (S.C 22) 18)) := r3.cell 2
            have x3 : w3.cell? ⟨w.heap.size + 2, 3, none⟩ = some (.bool (bitS (S.C 22) 19 || bitS (S.C 0) 19)) := r3.cell 3
            have x4 : w3.cell? ⟨w.heap.size + 2, 4, none⟩ = some (.int .i64 0) := r3.cell 4
            have x5 : w3.cell? ⟨w.heap.size + 2, 5, none⟩ = some (.int .i64 (S.C 21 / 65536 % 256)) := r3.cell 5
            have x6 : w3.cell? ⟨w.heap.size + 2, 6, none⟩ = some (.int .i64 0) := r3.cell 6
            have x7 : w3.cell? ⟨w.heap.size + 2, 7, none⟩ = some (.int .i64 (S.C 21 % 256)) := r3.cell 7
            have hsum : ((#[.bool false, .bool true, .bool (bitS (S.C 22) 18), .bool (bitS (S.C 22) 19 || bitS (S.C 0) 19), .int .i64 0, .int .i64 (S.C 21 / 65536 % 256), .int .i64 0, .int .i64 (S.C 21 % 256)] : Array Value)).all (·.oneCell') = true := by simp [Value.oneCell']
            go_wp2_with (refine wpList_store_row rfl 46 _ _ rfl (w.heap.size + 1) #[.bool false, .bool true, .bool (bitS (S.C 22) 18), .bool (bitS (S.C 22) 19 || bitS (S.C 0) 19), .int .i64 0, .int .i64 (S.C 21 / 65536 % 256), .int .i64 0, .int .i64 (S.C 21 % 256)] rfl rfl 46 _ r3.r (ask_size _ _ _ _ _ _ _ _) rfl hsum ?_)
            refine bodyPost_ret (results_cell_row rfl _ _ (w.heap.size + 1) 46 _ (0, 0) _ rfl (setRow_heap _ _ _ _ _ _ r3.r) Tryd.underlying46 rfl (ask_size _ _ _ _ _ _ _ _)) rfl ⟨?_, r3.k.new ((Only.refl (fun i => i = w.heap.size + 1) w3).setRow rfl _) fun i hi => by omega⟩
            show Ending.returned (.agg #[.bool false, .bool true, .bool (bitS (S.C 22) 18), .bool (bitS (S.C 22) 19 || bitS (S.C 0) 19), .int .i64 0, .int .i64 (S.C 21 / 65536 % 256), .int .i64 0, .int .i64 (S.C 21 % 256)]) = .returned (.agg (askA (askV (S.C 28) (S.C 21) true (bitS (S.C 22) 18) (bitS (S.C 22) 19 || bitS (S.C 0) 19))))
            unfold askA askV
            rw [hf, hh]
            rfl
          · have hf2 : (S.C 28 / 9223372036854775808 == 1) = true := hf
            go_upto_region 14 with fail
            have r3 := ((((((r5).set 1 (.bool true)).set 5 (.int .i64 (S.C 21 / 65536 % 256))).set 7 (.int .i64 (S.C 21 % 256))).set 0 (.bool true)).set 4 (.int .i64 (S.C 28 / 65536 % 256))).set 6 (.int .i64 (S.C 28 % 256))
            generalize ((((((wc).setCell ⟨w.heap.size + 2, 1, none⟩ (.bool true)).setCell ⟨w.heap.size + 2, 5, none⟩ (.int .i64 (S.C 21 / 65536 % 256))).setCell ⟨w.heap.size + 2, 7, none⟩ (.int .i64 (S.C 21 % 256))).setCell ⟨w.heap.size + 2, 0, none⟩ (.bool true)).setCell ⟨w.heap.size + 2, 4, none⟩ (.int .i64 (S.C 28 / 65536 % 256))).setCell ⟨w.heap.size + 2, 6, none⟩ (.int .i64 (S.C 28 % 256)) = w3 at r3 ⊢
            have x0 : w3.cell? ⟨w.heap.size + 2, 0, none⟩ = some (.bool true) := r3.cell 0
            have x1 : w3.cell? ⟨w.heap.size + 2, 1, none⟩ = some (.bool true) := r3.cell 1
            have x2 : w3.cell? ⟨w.heap.size + 2, 2, none⟩ = some (.bool (bitS (S.C 22) 18)) := r3.cell 2
            have x3 : w3.cell? ⟨w.heap.size + 2, 3, none⟩ = some (.bool (bitS (S.C 22) 19 || bitS (S.C 0) 19)) := r3.cell 3
            have x4 : w3.cell? ⟨w.heap.size + 2, 4, none⟩ = some (.int .i64 (S.C 28 / 65536 % 256)) := r3.cell 4
            have x5 : w3.cell? ⟨w.heap.size + 2, 5, none⟩ = some (.int .i64 (S.C 21 / 65536 % 256)) := r3.cell 5
            have x6 : w3.cell? ⟨w.heap.size + 2, 6, none⟩ = some (.int .i64 (S.C 28 % 256)) := r3.cell 6
            have x7 : w3.cell? ⟨w.heap.size + 2, 7, none⟩ = some (.int .i64 (S.C 21 % 256)) := r3.cell 7
            have hsum : ((#[.bool true, .bool true, .bool (bitS (S.C 22) 18), .bool (bitS (S.C 22) 19 || bitS (S.C 0) 19), .int .i64 (S.C 28 / 65536 % 256), .int .i64 (S.C 21 / 65536 % 256), .int .i64 (S.C 28 % 256), .int .i64 (S.C 21 % 256)] : Array Value)).all (·.oneCell') = true := by simp [Value.oneCell']
            go_wp2_with (refine wpList_store_row rfl 46 _ _ rfl (w.heap.size + 1) #[.bool true, .bool true, .bool (bitS (S.C 22) 18), .bool (bitS (S.C 22) 19 || bitS (S.C 0) 19), .int .i64 (S.C 28 / 65536 % 256), .int .i64 (S.C 21 / 65536 % 256), .int .i64 (S.C 28 % 256), .int .i64 (S.C 21 % 256)] rfl rfl 46 _ r3.r (ask_size _ _ _ _ _ _ _ _) rfl hsum ?_)
            refine bodyPost_ret (results_cell_row rfl _ _ (w.heap.size + 1) 46 _ (0, 0) _ rfl (setRow_heap _ _ _ _ _ _ r3.r) Tryd.underlying46 rfl (ask_size _ _ _ _ _ _ _ _)) rfl ⟨?_, r3.k.new ((Only.refl (fun i => i = w.heap.size + 1) w3).setRow rfl _) fun i hi => by omega⟩
            show Ending.returned (.agg #[.bool true, .bool true, .bool (bitS (S.C 22) 18), .bool (bitS (S.C 22) 19 || bitS (S.C 0) 19), .int .i64 (S.C 28 / 65536 % 256), .int .i64 (S.C 21 / 65536 % 256), .int .i64 (S.C 28 % 256), .int .i64 (S.C 21 % 256)]) = .returned (.agg (askA (askV (S.C 28) (S.C 21) true (bitS (S.C 22) 18) (bitS (S.C 22) 19 || bitS (S.C 0) 19))))
            unfold askA askV
            rw [hf, hh]
            rfl
theorem rask_any {S : StM} (hS : S.Ok) (level : Int) (v : Bool) (w : World) :
    Calls Tryd.prog 14 #[.agg (rowOf 65 (stF S)), .int .i64 level, .bool v] w fun e w' => e = .returned (.agg (askA (askS S level v))) ∧ Kept w w' := by
  unfold askS
  by_cases h : level = 3
  · rw [if_pos h, h]
    exact rask_mach v w
  · rw [if_neg h]
    exact rask_try hS level h v w
end Go.Proofs.YtpplclenokfpeaaDoor
