/-
  What the landed package's calls answer, over the document's sixteen entries: walked whole, for every argument.
-/
import Derived.Test.YtpfblbleendpiaaDoorTTlA
import Derived.Test.YtpfblbleendpiaaDoorRefTl4
import Derived.Test.YtpfblbleendpiaaDoorOwnEnt
import Derived.Laws.ResultCell
import Derived.Deep.WholeRow
namespace Go.Proofs.YtpfblbleendpiaaDoor
open Go.RowKit
/-- No package-level variable is on the road. -/
structure Tab13 (w : World) : Prop where
  t : w = w
theorem Tab13.kept {w w' : World} (_ : Tab13 w) (_ : Kept w w') : Tab13 w' := ⟨rfl⟩
/-- A place that is free holds the entry that is none. -/
def Free0 (T : Nat → EntM) : Prop := ∀ i, i < 16 → (T i).valid = false → T i = entNone
/-- The landed object. -/
structure PTl (w : World) (b : Nat) (T : Nat → EntM) : Prop where
  a : TlAt w b T
  z : Free0 T
theorem PTl.lt {w : World} {b : Nat} {T : Nat → EntM} (h : PTl w b T) : b < w.heap.size := h.a.lt
theorem PTl.kept {w w' : World} {b : Nat} {T : Nat → EntM} (h : PTl w b T) (g : Kept w w') : PTl w' b T := ⟨h.a.kept g, h.z⟩
theorem PTl.same {w w' : World} {b : Nat} {T : Nat → EntM} (h : PTl w b T) {S : Nat → Prop} (g : Only S w w') (hn : ¬ S b) : PTl w' b T := ⟨h.a.same g hn, h.z⟩
theorem free_none : Free0 noneT := fun _ _ _ => rfl
theorem free_set {T : Nat → EntM} (h : Free0 T) (i : Int) {e : EntM} (he : e.valid = false → e = entNone) : Free0 (setT T i e) := fun j hj hv => by
  unfold setT at *
  by_cases e1 : (j : Int) = i
  · rw [if_pos e1] at *; exact he hv
  · rw [if_neg e1] at *; exact h j hj hv
theorem idx_free {T : Nat → EntM} (h : Free0 T) : findF (fun i => eqE entNone (T i)) 16 0 = findF (freeP T) 16 0 := by
  refine find_congr 16 0 fun j _ hj => ?_
  unfold freeP
  cases hv : (T j).valid
  · rw [h j (by omega) hv]; exact eqE_self _
  · unfold eqE; rw [hv]; rfl
theorem idx_drop (T : Nat → EntM) {e : EntM} (he : e.valid = true) : findF (fun i => eqE e (T i)) 16 0 = findF (sameP T e) 16 0 := by
  refine find_congr 16 0 fun j _ _ => ?_
  unfold sameP
  cases hx : eqE e (T j)
  · cases hy : eqE (T j) e
    · rw [Bool.and_false]
    · rw [eqE_eq hy, eqE_self] at hx
      cases hx
  · rw [← eqE_eq hx, he, eqE_self]; rfl
theorem drop_inv (T : Nat → EntM) {e : EntM} (he : e.valid = false) : findF (sameP T e) 16 0 = -1 := by
  refine find_none _ 16 0 fun j _ _ => ?_
  unfold sameP
  cases hv : (T j).valid
  · rfl
  · unfold eqE; rw [hv, he]; rfl
/-- The sixteen one behind the other. -/
def rowT (T : Nat → EntM) : List Value := flatE ((List.range 16).map T)
theorem row_len (T : Nat → EntM) : (rowT T).length = 144 := by unfold rowT; rw [flat_len, List.length_map, List.length_range]
theorem row_at (T : Nat → EntM) {i : Nat} (hi : i < 16) {j : Nat} (hj : j < 9) : (rowT T)[i * 9 + j]? = (entA (T i))[j]? := by
  unfold rowT
  rw [flat_at _ i (by rw [List.length_map, List.length_range]; exact hi) j hj, List.getElem_map, List.getElem_range]
theorem row_ones (T : Nat → EntM) : (rowT T).toArray.all (·.oneCell') = true := by
  rw [Array.all_eq_true]
  intro i hi
  have hm : (rowT T).toArray[i] ∈ flatE ((List.range 16).map T) := by rw [List.getElem_toArray]; exact List.getElem_mem _
  exact flat_ones _ _ hm
theorem TlAt.row {w : World} {b : Nat} {T : Nat → EntM} (h : TlAt w b T) : w.rangeAt b 0 (rowT T) := fun k v hv => by
  have hk : k < 144 := by
    have := (List.getElem?_eq_some_iff.1 hv).1
    rwa [row_len] at this
  have hd : k = k / 9 * 9 + k % 9 := by omega
  rw [hd, row_at T (by omega) (by omega)] at hv
  have := h.at_ (k / 9) (by omega) (k % 9) v hv
  rwa [← hd, ← Nat.zero_add k] at this
theorem row_tl {w : World} {b : Nat} {T : Nat → EntM} (hl : b < w.heap.size) (h : w.rangeAt b 0 (rowT T)) (hf : ∀ j, j < 144 → w.frozen? ⟨b, j, none⟩ = false) : TlAt w b T := by
  refine ⟨hl, fun i hi j v hv => ?_, hf⟩
  have hj : j < 9 := by
    have := (List.getElem?_eq_some_iff.1 hv).1
    rwa [ent9] at this
  have := h (i * 9 + j) v (by rw [row_at T hi hj]; exact hv)
  rwa [Nat.zero_add] at this
theorem blk_tl {w : World} {b : Nat} {t : TypeId} {T : Nat → EntM} (h : Blk w b t (rowT T).toArray) : TlAt w b T := row_tl (Blk.lt h) (Blk.range h) fun j _ => by simp [World.frozen?, h]
theorem tl_size (T : Nat → EntM) : (Tryd.prog.info? 65).map (·.size) = some (rowT T).toArray.size := by
  rw [List.size_toArray, row_len]
  kernel_rfl
theorem arr_size (T : Nat → EntM) : (Tryd.prog.info? 50).map (·.size) = some (rowT T).length := by
  rw [row_len]
  kernel_rfl
theorem tl_size' (T : Nat → EntM) : (Tryd.prog.info? 65).map (·.size) = some (rowT T).length := by
  rw [row_len]
  kernel_rfl
theorem tl_zero : (Tryd.prog.info? 65).map (fun i => i.zero.map (·.cells)) = some (some (rowT noneT).toArray) := by kernel_rfl
theorem TlAt.there144 {w : World} {b : Nat} {T : Nat → EntM} (h : TlAt w b T) : w.there b 0 144 := fun j hj => by
  have hd : j = j / 9 * 9 + j % 9 := by omega
  have := h.there (i := j / 9) (by omega) (j % 9) (by omega)
  rwa [← hd, ← Nat.zero_add j] at this
theorem zero_cells : (Builtin.zeroCells (Value.agg (entA entNone).toArray).cells 16).toList = rowT noneT := by kernel_rfl
/-- All sixteen cleared. -/
theorem run_clear16 {w : World} {b : Nat} {T : Nat → EntM} (h : TlAt w b T) (ty : TypeId) (n : Nat) :
    (Builtin.clear_ #[22] ty #[.slice (some ⟨b, 0, none⟩) 16 n]).run Tryd.prog w = .ok (.tuple #[]) (w.setCells b 0 (rowT noneT)) := by
  have ht := h.there144
  have hst := run_storeCells_cells (P := Tryd.prog) b 0 (rowT noneT) 0 w (fun j hj => (ht j (by rw [row_len] at hj; exact hj)).1) (fun j hj => (ht j (by rw [row_len] at hj; exact hj)).2) (fun v hv => by have := row_ones noneT; rw [Array.all_eq_true'] at this; exact this v (by simpa using hv))
  simp only [Nat.add_zero] at hst
  have hz : (Builtin.zeroCells (Value.agg #[.bool false, .bool false, .int .i64 0, .int .i64 0, .int .i64 0, .int .i64 0, .int .i64 0, .int .i64 0, .int .i64 0]).cells 16).toList = rowT noneT := zero_cells
  simp [Builtin.clear_, run_underlying Tryd.underlying22, hz, hst]
theorem clear_tl {w : World} {b : Nat} {T : Nat → EntM} (h : TlAt w b T) : TlAt (w.setCells b 0 (rowT noneT)) b noneT := by
  have g := only_cells b (rowT noneT) 0 w
  refine row_tl (Nat.lt_of_lt_of_le h.lt g.size) (World.rangeAt_setCells_same w b 0 _ (by rw [row_len]; exact h.there144)) fun j hj => ?_
  rw [World.frozen?_setCells]; exact h.free j hj
/-- One of sixteen, by its place. -/
theorem run_index16 (T : Nat → EntM) {j : Nat} (hj : j < 16) (w : World) : (Instr.index 50 (.agg (rowT T).toArray) (.int .i64 (j : Int))).run Tryd.prog w = .ok (.agg (entA (T j)).toArray) w := by
  have hs : (sizeOf 47).run Tryd.prog w = .ok 9 w := by kernel_rfl
  have he : List.take 9 (List.drop (j * 9) (rowT T)) = entA (T j) := by
    apply List.ext_getElem?
    intro k
    rw [List.getElem?_take]
    by_cases hk : k < 9
    · rw [if_pos hk, List.getElem?_drop, row_at T hj hk]
    · rw [if_neg hk]
      exact (List.getElem?_eq_none (by rw [ent9]; omega)).symm
  simp [Instr.index, run_underlying Tryd.underlying50, asIntOf, part, hs, he, hj]
structure NmAll (w : World) (b : Nat) (page : Int) (v : Bool) (asid vmid r : Int) : Prop where
  a : ∀ w', Kept w w' → Calls Tryd.prog 37 #[.pointer (some ⟨b, 0, none⟩), .agg (nameA page v asid vmid)] w' fun e w'' => e = .returned (.int .i64 r) ∧ Kept w' w''
structure IxAll (w : World) (b : Nat) (e : EntM) (f : Int) : Prop where
  a : ∀ w', Kept w w' → Calls Tryd.prog 39 #[.slice (some ⟨b, 0, none⟩) 16 16, .agg (entA e).toArray] w' fun r w'' => r = .returned (.int .i64 f) ∧ Kept w' w''
structure SpAll (w : World) (b : Nat) (e : EntM) (pick s : Int) : Prop where
  a : ∀ w', Kept w w' → Calls Tryd.prog 31 #[.pointer (some ⟨b, 0, none⟩), .agg (entA e).toArray, .int .i64 pick] w' fun r w'' => r = .returned (.int .i64 s) ∧ Kept w' w''
theorem rem16 (pick : Int) : (pick.tmod 16 + 16).tmod 16 = pick % 16 ∧ -16 < pick.tmod 16 ∧ pick.tmod 16 < 16 := by
  have h1 : pick.tmod 16 = pick - 16 * (pick.tdiv 16) := Int.tmod_def pick 16
  have h2 : -16 < pick.tmod 16 ∧ pick.tmod 16 < 16 := ⟨by have := Int.lt_tmod_of_pos pick (b := 16) (by omega); omega, Int.tmod_lt_of_pos pick (by omega)⟩
  refine ⟨?_, h2⟩
  rw [Int.tmod_eq_emod_of_nonneg (by omega)]
  omega
section
variable {w : World} {b : Nat} {T : Nat → EntM}
set_option maxHeartbeats 1000000 in
theorem tplace_any (ht : PTl w b T) (e : EntM) (pick : Int) :
    Calls Tryd.prog 31 #[.pointer (some ⟨b, 0, none⟩), .agg (entA e).toArray, .int .i64 pick] w fun r w' => r = .returned (.int .i64 (spotT T e pick)) ∧ Kept w w' := by
  have hN : NmAll w b e.page e.v e.asid e.vmid (atT T e.page e.v e.asid e.vmid) := ⟨fun w' k => tnamed_any (ht.a.kept k) _ _ _ _⟩
  have hI : IxAll w b entNone (findF (freeP T) 16 0) := ⟨fun w' k => by rw [← idx_free ht.z]; exact tindex_any (ht.a.kept k) entNone⟩
  have hsp : spotT T e pick = if ¬ atT T e.page e.v e.asid e.vmid < 0 then atT T e.page e.v e.asid e.vmid else if ¬ findF (freeP T) 16 0 < 0 then findF (freeP T) 16 0 else pick % 16 := rfl
  obtain ⟨m1, m2, m3⟩ := rem16 pick
  rw [hsp]
  clear hsp
  have kb := (Only.refl (fun _ => False) w).alloc (.cells (entA e).toArray 47)
  have bl : Blk (w.alloc (.cells (entA e).toArray 47)) w.heap.size 47 (entA e).toArray := alloc_last w _ _
  generalize atT T e.page e.v e.asid e.vmid = r at *
  generalize findF (freeP T) 16 0 = f at *
  by_cases hr : r < 0
  · have hr2 : ¬ ¬ r < 0 := fun h => h hr
    have hr3 : ¬ r ≥ 0 := by omega
    rw [if_neg hr2]
    by_cases hf : f < 0
    · have hf2 : ¬ ¬ f < 0 := fun h => h hf
      have hf3 : ¬ f ≥ 0 := by omega
      rw [if_neg hf2]
      go_enter Tryd.func31, Tryd.ntmps31
      go_upto_region 1 with fail
      generalize hw1 : w.alloc (.cells (entA e).toArray 47) = w1 at *
      generalize w.heap.size = eb at *
      clear hw1
      go_wp2_with (first | (refine wpList_load_blk (by rfl) 47 _ rfl eb rfl bl _ Tryd.underlying47 rfl (ent_size' _) ?_) | (go_at_call 38; refine (tname_any e).mono ?_; rintro r9 wm ⟨rfl, km⟩) | (go_at_call 37; refine (hN.a _ (kb.then km)).mono ?_; rintro r9 wn ⟨rfl, kn⟩) | (refine wpList_built rfl 47 _ rfl (entA entNone).toArray (by kernel_rfl) ?_) | (go_at_call 39; refine (hI.a _ ((kb.then km).then kn)).mono ?_; rintro r9 wo ⟨rfl, ko⟩))
      go_ret
      exact ⟨by first | rfl | rw [m1] | skip, ((kb.then km).then kn).then ko⟩
    · rw [if_pos hf]
      have hf3 : f ≥ 0 := by omega
      go_enter Tryd.func31, Tryd.ntmps31
      go_upto_region 1 with fail
      generalize hw1 : w.alloc (.cells (entA e).toArray 47) = w1 at *
      generalize w.heap.size = eb at *
      clear hw1
      go_wp2_with (first | (refine wpList_load_blk (by rfl) 47 _ rfl eb rfl bl _ Tryd.underlying47 rfl (ent_size' _) ?_) | (go_at_call 38; refine (tname_any e).mono ?_; rintro r9 wm ⟨rfl, km⟩) | (go_at_call 37; refine (hN.a _ (kb.then km)).mono ?_; rintro r9 wn ⟨rfl, kn⟩) | (refine wpList_built rfl 47 _ rfl (entA entNone).toArray (by kernel_rfl) ?_) | (go_at_call 39; refine (hI.a _ ((kb.then km).then kn)).mono ?_; rintro r9 wo ⟨rfl, ko⟩))
      go_ret
      exact ⟨rfl, ((kb.then km).then kn).then ko⟩
  · rw [if_pos hr]
    have hr3 : r ≥ 0 := by omega
    go_enter Tryd.func31, Tryd.ntmps31
    go_upto_region 1 with fail
    generalize hw1 : w.alloc (.cells (entA e).toArray 47) = w1 at *
    generalize w.heap.size = eb at *
    clear hw1
    go_wp2_with (first | (refine wpList_load_blk (by rfl) 47 _ rfl eb rfl bl _ Tryd.underlying47 rfl (ent_size' _) ?_) | (go_at_call 38; refine (tname_any e).mono ?_; rintro r9 wm ⟨rfl, km⟩) | (go_at_call 37; refine (hN.a _ (kb.then km)).mono ?_; rintro r9 wn ⟨rfl, kn⟩) | (refine wpList_built rfl 47 _ rfl (entA entNone).toArray (by kernel_rfl) ?_) | (go_at_call 39; refine (hI.a _ ((kb.then km).then kn)).mono ?_; rintro r9 wo ⟨rfl, ko⟩))
    go_ret
    exact ⟨rfl, (kb.then km).then kn⟩
set_option maxHeartbeats 2000000 in
theorem tfill_any (_ : Tab13 w) (ht : PTl w b T) (e : EntM) (pick : Int) :
    Calls Tryd.prog 18 #[.pointer (some ⟨b, 0, none⟩), .agg (entA e).toArray, .int .i64 pick] w fun r w' => r = .returned (.tuple #[]) ∧ PTl w' b (fillT T e pick) ∧ Only (fun i => i = b) w w' := by
  have kb := (Only.refl (fun _ => False) w).alloc (.cells (entA e).toArray 47)
  have bl : Blk (w.alloc (.cells (entA e).toArray 47)) w.heap.size 47 (entA e).toArray := alloc_last w _ _
  have c0 : _ = some (Value.bool e.valid) := bl.cell 0
  cases hv : e.valid
  · rw [fill_no T pick hv]
    rw [hv] at c0
    clear bl
    go_enter Tryd.func18, Tryd.ntmps18
    go_wp2_with fail
    go_end0
    exact ⟨rfl, ht.kept kb, kb.mono fun _ x => x.elim⟩
  · rw [fill_yes T pick hv]
    rw [hv] at c0
    have hP : SpAll w b e pick (spotT T e pick) := ⟨fun w' k => tplace_any (ht.kept k) e pick⟩
    have hbd := spot_bd T e pick
    have hne : ¬ w.heap.size = b := by have := ht.lt; omega
    generalize spotT T e pick = J at *
    obtain ⟨J, rfl⟩ := Int.eq_ofNat_of_zero_le hbd.1
    have hJ : J < 16 := by omega
    have hJ0 : (0 : Int) ≤ (J : Int) := by omega
    have hJ16 : (J : Int) < 16 := by omega
    go_enter Tryd.func18, Tryd.ntmps18
    go_upto_region 1 with fail
    generalize hw1 : w.alloc (.cells (entA e).toArray 47) = w1 at *
    generalize w.heap.size = eb at *
    clear hw1
    go_upto_region 2 with fail
    have hE9 : Blk w1.drew eb 47 (entA e).toArray := bl.kept ((Only.refl _ w1).drew)
    have hk9 : Kept w w1.drew := kb.then ((Only.refl _ w1).drew)
    have hT9 := ht.a.kept hk9
    clear bl kb c0
    refine wp_region_held_drew (S := fun w2 => Only (fun i => i = b) w1.drew w2) (by kernel_rfl) (Only.refl _ _) (fun hHeld => ?_)
    generalize w1.drew = wd at *
    refine wpAnyH_take (i := 0) (v := ?_) rfl (by kernel_rfl) (by kernel_rfl) (by kernel_rfl) (fun _ _ _ h => h) (Or.inl ⟨by rfl, ?_⟩) hHeld ?_
    rotate_left
    · intro w2 hSw
      go_simp
      all_goals rfl
    try simp only [Act.put, List.getElem_toArray, List.getElem_cons_zero, List.setIfInBounds_toArray, List.set_cons_zero, List.set_cons_succ]
    refine wpAnyH_take (i := 1) (v := ?_) rfl (by kernel_rfl) (by kernel_rfl) (by kernel_rfl) (fun _ _ _ h => h) (Or.inl ⟨by rfl, ?_⟩) hHeld ?_
    rotate_left
    · intro w2 hSw
      go_simp
      all_goals rfl
    try simp only [Act.put, List.getElem_toArray, List.getElem_cons_zero, List.getElem_cons_succ, List.setIfInBounds_toArray, List.set_cons_zero, List.set_cons_succ]
    refine wpAnyH_take (i := 2) (v := .agg (entA e).toArray) rfl (by kernel_rfl) (by kernel_rfl) (by kernel_rfl) (fun _ _ _ h => h) (Or.inl ⟨by rfl, ?_⟩) hHeld ?_
    · intro w2 hSw
      exact exec_load rfl rfl (run_loadVar_mid _ eb 0 _ (entA e) _ (Blk.range (hSw.block hE9 hne)) Tryd.underlying47 rfl (ent_size' _))
    try simp only [Act.put, List.getElem_toArray, List.getElem_cons_zero, List.getElem_cons_succ, List.setIfInBounds_toArray, List.set_cons_zero, List.set_cons_succ]
    refine wpAnyH_take (i := 3) (v := ?_) rfl (by kernel_rfl) (by kernel_rfl) (by kernel_rfl) (fun _ _ _ h => h) (Or.inl ⟨by rfl, ?_⟩) hHeld ?_
    rotate_left
    · intro w2 hSw
      go_simp
      all_goals rfl
    try simp only [Act.put, List.getElem_toArray, List.getElem_cons_zero, List.getElem_cons_succ, List.setIfInBounds_toArray, List.set_cons_zero, List.set_cons_succ]
    refine wpAnyH_take (i := 5) (v := .agg (entA e).toArray) rfl (by kernel_rfl) (by kernel_rfl) (by kernel_rfl) (fun _ _ _ h => h) (Or.inl ⟨by rfl, ?_⟩) hHeld ?_
    · intro w2 hSw
      exact exec_load rfl rfl (run_loadVar_mid _ eb 0 _ (entA e) _ (Blk.range (hSw.block hE9 hne)) Tryd.underlying47 rfl (ent_size' _))
    try simp only [Act.put, List.getElem_toArray, List.getElem_cons_zero, List.getElem_cons_succ, List.setIfInBounds_toArray, List.set_cons_zero, List.set_cons_succ]
    refine wpAnyH_take (i := 6) (v := ?_) rfl (by kernel_rfl) (by kernel_rfl) (by kernel_rfl) (fun _ _ _ h => h) (Or.inl ⟨by rfl, ?_⟩) hHeld ?_
    rotate_left
    · intro w2 hSw
      go_simp
      all_goals rfl
    try simp only [Act.put, List.getElem_toArray, List.getElem_cons_zero, List.getElem_cons_succ, List.setIfInBounds_toArray, List.set_cons_zero, List.set_cons_succ]
    refine wpAnyH_take (i := 7) (v := ?_) rfl (by kernel_rfl) (by kernel_rfl) (by kernel_rfl) (fun _ _ _ h => h) (Or.inl ⟨by rfl, ?_⟩) hHeld ?_
    rotate_left
    · intro w2 hSw
      go_simp
      all_goals rfl
    try simp only [Act.put, List.getElem_toArray, List.getElem_cons_zero, List.getElem_cons_succ, List.setIfInBounds_toArray, List.set_cons_zero, List.set_cons_succ]
    refine wpAnyH_ready (rs := [4]) (by kernel_rfl) (by simp) ?_
    refine AllReadyH.cons rfl (fun K hK => ?_) AllReadyH.nil
    go_simp
    refine (hP.a _ hk9).mono ?_
    rintro r wn ⟨rfl, kn⟩
    go_simp
    refine hK.out _ _ (kn.mono fun _ x => x.elim) (fun hHeld => ?_)
    clear hK K
    try simp only [Act.put, List.getElem_toArray, List.getElem_cons_zero, List.getElem_cons_succ, List.setIfInBounds_toArray, List.set_cons_zero, List.set_cons_succ]
    refine wpAnyH_take (i := 8) (v := ?_) rfl (by kernel_rfl) (by kernel_rfl) (by kernel_rfl) (fun _ _ _ h => h) (Or.inl ⟨by rfl, ?_⟩) hHeld ?_
    rotate_left
    · intro w2 hSw
      go_simp
      all_goals rfl
    try simp only [Act.put, List.getElem_toArray, List.getElem_cons_zero, List.getElem_cons_succ, List.setIfInBounds_toArray, List.set_cons_zero, List.set_cons_succ]
    refine wpAnyH_ready (rs := [9]) (by kernel_rfl) (by simp) ?_
    refine AllReadyH.cons rfl (fun K hK => ?_) AllReadyH.nil
    rw [if_pos (by rfl)]
    refine wp_store_mid _ _ _ rfl b (J * 9) (entA e).toArray rfl rfl ((hT9.kept kn).there hJ) (ent_size' _) (ent_ones' _) ?_
    refine hK.out _ _ (hHeld.trans (only_cells b (entA e) (J * 9) _)) (fun hHeld => ?_)
    clear hK K
    try simp only [Act.put, List.getElem_toArray, List.getElem_cons_zero, List.getElem_cons_succ]
    refine wpAnyH_done (by kernel_rfl) ?_ _
    go_wp2_with fail
    go_end0
    exact ⟨rfl, ⟨(hT9.kept kn).set hJ e, free_set ht.z _ fun h => by rw [hv] at h; cases h⟩, Kept.then (hk9.then kn) (only_cells b (entA e) (J * 9) _)⟩
set_option maxHeartbeats 2000000 in
theorem tdrop_any (_ : Tab13 w) (ht : PTl w b T) (e : EntM) :
    Calls Tryd.prog 34 #[.pointer (some ⟨b, 0, none⟩), .agg (entA e).toArray] w fun r w' => r = .returned (.bool (decide (0 ≤ dropI T e))) ∧ PTl w' b (dropT T e) ∧ Only (fun i => i = b) w w' := by
  have kb := (Only.refl (fun _ => False) w).alloc (.cells (entA e).toArray 47)
  have bl : Blk (w.alloc (.cells (entA e).toArray 47)) w.heap.size 47 (entA e).toArray := alloc_last w _ _
  have hI : IxAll w b e (findF (fun i => eqE e (T i)) 16 0) := ⟨fun w' k => tindex_any (ht.a.kept k) e⟩
  have hidx := idx_drop T (e := e)
  have hinv := drop_inv T (e := e)
  have hcs := find_cases (fun i => eqE e (T i)) 16 0
  generalize findF (fun i => eqE e (T i)) 16 0 = f at *
  go_enter Tryd.func34, Tryd.ntmps34
  go_upto_region 1 with fail
  generalize hw1 : w.alloc (.cells (entA e).toArray 47) = w1 at *
  generalize w.heap.size = eb at *
  clear hw1
  have hE9 : Blk w1.drew eb 47 (entA e).toArray := bl.kept ((Only.refl _ w1).drew)
  have hk9 : Kept w w1.drew := kb.then ((Only.refl _ w1).drew)
  clear bl kb
  refine wp_region_held_drew (S := fun w2 => Kept w1.drew w2) (by kernel_rfl) (Only.refl _ _) (fun hHeld => ?_)
  generalize w1.drew = wd at *
  refine wpAnyH_take (i := 0) (v := ?_) rfl (by kernel_rfl) (by kernel_rfl) (by kernel_rfl) (fun _ _ _ h => h) (Or.inl ⟨by rfl, ?_⟩) hHeld ?_
  rotate_left
  · intro w2 hSw
    go_simp
    all_goals rfl
  try simp only [Act.put, List.getElem_toArray, List.getElem_cons_zero, List.setIfInBounds_toArray, List.set_cons_zero, List.set_cons_succ]
  refine wpAnyH_take (i := 1) (v := ?_) rfl (by kernel_rfl) (by kernel_rfl) (by kernel_rfl) (fun _ _ _ h => h) (Or.inl ⟨by rfl, ?_⟩) hHeld ?_
  rotate_left
  · intro w2 hSw
    go_simp
    all_goals rfl
  try simp only [Act.put, List.getElem_toArray, List.getElem_cons_zero, List.getElem_cons_succ, List.setIfInBounds_toArray, List.set_cons_zero, List.set_cons_succ]
  refine wpAnyH_take (i := 2) (v := ?_) rfl (by kernel_rfl) (by kernel_rfl) (by kernel_rfl) (fun _ _ _ h => h) (Or.inl ⟨by rfl, ?_⟩) hHeld ?_
  rotate_left
  · intro w2 hSw
    go_simp
    all_goals rfl
  try simp only [Act.put, List.getElem_toArray, List.getElem_cons_zero, List.getElem_cons_succ, List.setIfInBounds_toArray, List.set_cons_zero, List.set_cons_succ]
  refine wpAnyH_take (i := 3) (v := ?_) rfl (by kernel_rfl) (by kernel_rfl) (by kernel_rfl) (fun _ _ _ h => h) (Or.inl ⟨by rfl, ?_⟩) hHeld ?_
  rotate_left
  · intro w2 hSw
    go_simp
    all_goals rfl
  try simp only [Act.put, List.getElem_toArray, List.getElem_cons_zero, List.getElem_cons_succ, List.setIfInBounds_toArray, List.set_cons_zero, List.set_cons_succ]
  refine wpAnyH_take (i := 4) (v := .agg (entA e).toArray) rfl (by kernel_rfl) (by kernel_rfl) (by kernel_rfl) (fun _ _ _ h => h) (Or.inl ⟨by rfl, ?_⟩) hHeld ?_
  · intro w2 hSw
    exact exec_load rfl rfl (run_loadVar_mid _ eb 0 _ (entA e) _ (Blk.range (hE9.kept hSw)) Tryd.underlying47 rfl (ent_size' _))
  try simp only [Act.put, List.getElem_toArray, List.getElem_cons_zero, List.getElem_cons_succ, List.setIfInBounds_toArray, List.set_cons_zero, List.set_cons_succ]
  refine wpAnyH_ready (rs := [5]) (by kernel_rfl) (by simp) ?_
  refine AllReadyH.cons rfl (fun K hK => ?_) AllReadyH.nil
  go_simp
  refine (hI.a _ hk9).mono ?_
  rintro r wn ⟨rfl, kn⟩
  go_simp
  refine hK.out _ _ kn (fun hHeld => ?_)
  clear hK K
  try simp only [Act.put, List.getElem_toArray, List.getElem_cons_zero, List.getElem_cons_succ, List.setIfInBounds_toArray, List.set_cons_zero, List.set_cons_succ]
  refine wpAnyH_take (i := 6) (v := ?_) rfl (by kernel_rfl) (by kernel_rfl) (by kernel_rfl) (fun _ _ _ h => h) (Or.inl ⟨by rfl, ?_⟩) hHeld ?_
  rotate_left
  · intro w2 hSw
    go_simp
    all_goals rfl
  try simp only [Act.put, List.getElem_toArray, List.getElem_cons_zero, List.getElem_cons_succ, List.setIfInBounds_toArray, List.set_cons_zero, List.set_cons_succ]
  refine wpAnyH_done (by kernel_rfl) ?_ _
  have hk := hk9.then kn
  have c0 : _ = some (Value.bool e.valid) := (hE9.kept kn).cell 0
  clear hE9 hHeld hk9 kn
  by_cases hf : f < 0
  · have hm : findF (sameP T e) 16 0 = -1 := by
      cases hv : e.valid
      · exact hinv hv
      · have := hidx hv
        rcases hcs with h | ⟨j, _, _, _, h⟩ <;> omega
    obtain ⟨d1, d2⟩ := drop_no T e hm
    clear hcs hidx hinv c0 hI
    go_wp2_with fail
    go_ret
    exact ⟨by first | rfl | (rw [d2]; rfl), by first | exact ht.kept hk | (rw [d1]; exact ht.kept hk), hk.mono fun _ x => x.elim⟩
  · cases hv : e.valid
    · obtain ⟨d1, d2⟩ := drop_no T e (hinv hv)
      rw [hv] at c0
      clear hcs hidx hinv hI
      go_wp2_with fail
      go_ret
      exact ⟨by first | rfl | (rw [d2]; rfl), by first | exact ht.kept hk | (rw [d1]; exact ht.kept hk), hk.mono fun _ x => x.elim⟩
    · have hm := hidx hv
      obtain ⟨J, hJ, rfl⟩ : ∃ J : Nat, J < 16 ∧ f = (J : Int) := by
        rcases hcs with h | ⟨j, _, h2, _, h⟩
        · omega
        · exact ⟨j, by omega, h⟩
      obtain ⟨d1, d2⟩ := drop_yes T e hm.symm
      rw [hv] at c0
      have hJ0 : (0 : Int) ≤ (J : Int) := by omega
      have hJ16 : (J : Int) < 16 := by omega
      have hta := ht.a.kept hk
      have hth := hta.there hJ
      clear hcs hidx hinv hI hm
      go_wp2_with (first | (refine wpList_built rfl 47 _ rfl (entA entNone).toArray (by kernel_rfl) ?_) | (refine wpList_store_mid rfl 47 _ _ rfl b (J * 9) (entA entNone).toArray rfl rfl hth (ent_size' _) (ent_ones' _) ?_))
      go_ret
      exact ⟨by first | rfl | (rw [d2]; rfl), by first | exact ⟨hta.set hJ entNone, free_set ht.z _ fun _ => rfl⟩ | (rw [d1]; exact ⟨hta.set hJ entNone, free_set ht.z _ fun _ => rfl⟩), Kept.then hk (only_cells b (entA entNone) (J * 9) _)⟩
set_option maxRecDepth 10000 in
set_option maxHeartbeats 2000000 in
theorem tall_any (_ : Tab13 w) (ht : PTl w b T) :
    Calls Tryd.prog 15 #[.pointer (some ⟨b, 0, none⟩)] w fun e w' => ∃ v, e = .returned v ∧ OwnE w.heap.size w' v (allT T) ∧ Kept w w' := by
  have hix : ∀ (j : Nat), j < 16 → ∀ w, (Instr.index 50 (.agg (rowT T).toArray) (.int .i64 (j : Int))).run Tryd.prog w = .ok (.agg (entA (T j)).toArray) w := fun j hj w => run_index16 T hj w
  have hrow := ht.a.row
  have hsz := arr_size T
  generalize hR : rowT T = R at *
  clear hR
  go_enter Tryd.func15, Tryd.ntmps15
  go_wp2_with (refine wpList_load_mid rfl 50 _ rfl b 0 rfl R _ hrow Tryd.underlying50 rfl hsz ?_)
  go_loopw [10, 3] (fun i l wr => ∃ (j : Nat) (v : Value), j ≤ 16 ∧ i = .int .i64 (j : Int) ∧ l = v ∧ OwnE w.heap.size wr v (allF T j 0) ∧ Kept w wr) (fun i _ _ => 16 - (intOf i).toNat)
  case atStart => exact ⟨0, _, by omega, rfl, rfl, ownE_nil _ _, Only.refl _ _⟩
  case round =>
    obtain ⟨j, v, hj, rfl, rfl, ho, hg⟩ := hrel
    by_cases hlt : j < 16
    · have hlt' : (j : Int) < 16 := by omega
      have hj0 : (0 : Int) ≤ (j : Int) := by omega
      have hx := hix j hlt
      have hs := all_snoc T j 0
      rw [Nat.zero_add] at hs
      have hlen := all_len T j 0
      have hkeep : j < 16 := hlt
      obtain ⟨q, cap, rfl⟩ := ho.form
      clear hix hrow hsz
      go_upto_region 5 with (first | (refine wpList_alloc_go rfl 47 rfl (entA entNone).toArray ent_zero' ?_; intro eb wa na ka ma ea) | (refine wpList_store_go rfl 47 _ _ rfl eb (entA (T j)).toArray rfl rfl ea (ent_size' _) ((ent_len _).trans (ent_len _).symm) (ent_ones' _) ?_; intro wb ob fb))
      have hkb : Kept w wb := (hg.then ka).new ob fun i hi => by have := hg.size; omega
      have ho2 : OwnE w.heap.size wb (.slice q (allF T j 0).length cap) (allF T j 0) := (ho.kept ka).same ob fun i hi x => by have := (ho.lt i x).2; omega
      have c0 : _ = some (Value.bool (T j).valid) := fb.cell 0
      clear ho ka ea ob hg
      cases hv : (T j).valid
      · rw [hv, cond_false, List.append_nil] at hs
        rw [hv] at c0
        clear fb hx
        go_wp2_with fail
        exact ⟨⟨j + 1, _, by omega, by go_num, rfl, by rw [hs]; exact ho2, hkb⟩, by simp [intOf]; omega⟩
      · rw [hv, cond_true] at hs
        rw [hv] at c0
        go_upto_region 7 with (first | (refine wpList_load_blk (by rfl) 47 _ rfl eb rfl fb _ Tryd.underlying47 rfl (ent_size' _) ?_) | (refine wpList_slice1 rfl _ rfl (T j) rfl ?_; intro sb wc nc kc mc ec) | (at_builtin; refine wpList_appE rfl _ _ rfl rfl (ho2.kept kc) sb (T j) rfl ec.range (by omega) (by have := hkb.size; have := kc.size; omega) ?_; intro gb gc wd owb gob))
        have hk : Kept w wd := (hkb.then kc).new gob fun i hi => hi.1
        clear fb c0 ec ho2
        go_wp2_with fail
        exact ⟨⟨j + 1, _, by omega, by go_num, rfl, by rw [hs]; exact owb, hk⟩, by simp [intOf]; omega⟩
    · obtain rfl : j = 16 := by omega
      obtain ⟨q, cap, rfl⟩ := ho.form
      go_wp2
      go_ret
      exact ⟨_, rfl, ho, hg⟩
theorem tnew_any (_ : Tab13 w) :
    Calls Tryd.prog 17 #[] w fun e w' => ∃ b, e = .returned (.pointer (some ⟨b, 0, none⟩)) ∧ PTl w' b noneT ∧ w.heap.size ≤ b ∧ Kept w w' := by
  go_enter Tryd.func17, Tryd.ntmps17
  go_wp2_with (refine wpList_alloc_go rfl 65 rfl (rowT noneT).toArray tl_zero ?_; intro nb wa na ka ma ea)
  go_ret
  exact ⟨nb, rfl, ⟨blk_tl ea, free_none⟩, by omega, ka⟩
theorem tflush_any (_ : Tab13 w) (ht : PTl w b T) :
    Calls Tryd.prog 28 #[.pointer (some ⟨b, 0, none⟩)] w fun r w' => r = .returned (.int .i64 (allT T).length) ∧ PTl w' b noneT ∧ Only (fun i => i = b) w w' := by
  go_enter Tryd.func28, Tryd.ntmps28
  go_upto_region 2 with (go_at_call 15; refine (tall_any ⟨rfl⟩ ht).mono ?_; rintro r w1 ⟨v, rfl, ow, k1⟩; obtain ⟨q, cap, rfl⟩ := ow.form)
  have hcl := fun ty => run_clear16 (ht.a.kept k1) ty 16
  have h2 := clear_tl (ht.a.kept k1)
  have g2 := Kept.then k1 (only_cells b (rowT noneT) 0 w1)
  generalize w1.setCells b 0 (rowT noneT) = w2 at *
  clear ow k1
  go_wp2_with fail
  go_ret
  exact ⟨rfl, ⟨h2, free_none⟩, g2⟩
end
end Go.Proofs.YtpfblbleendpiaaDoor
