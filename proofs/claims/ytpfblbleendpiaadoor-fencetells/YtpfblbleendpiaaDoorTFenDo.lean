/-
  What package fence's Do answers: walked whole, for every argument.
-/
import Derived.Test.YtpfblbleendpiaaDoorTFen
import Derived.Test.YtpfblbleendpiaaDoorRefFenDo4
import Derived.Test.YtpfblbleendpiaaDoorEqEnt
import Derived.Deep.RegionHeld3
namespace Go.Proofs.YtpfblbleendpiaaDoor
open Go.RowKit
/-- What a register names, from a bit on. -/
def toldI (S : StM) (r d : Int) : Int := if 0 < r ∧ r < 32 then S.X r.toNat / d % 256 else -1
theorem told_a (S : StM) {op : Int} (r : Int) (h : ¬ op = 65) : toldI S r 256 = aD S op r := by
  unfold toldI aD
  split
  · first | rfl | rw [if_neg h]
  · rfl
theorem told_g (S : StM) (r : Int) : toldI S r 64 = aD S 65 r := by
  unfold toldI aD
  split
  · first | rfl | rw [if_pos rfl]
  · rfl
theorem told_b (S : StM) (r : Int) : toldI S r 1 = bD S r := by
  unfold toldI bD
  split
  · rw [Int.ediv_one]
  · rfl
theorem ftold_any {w : World} {S : StM} (hS : S.Ok) (f d : Int) (hf : (f = 16 ∧ d = 65536) ∨ (f = 8 ∧ d = 256) ∨ (f = 6 ∧ d = 64) ∨ (f = 0 ∧ d = 1)) (r : Int) :
    Calls Tryd.prog 25 #[.agg (rowOf 65 (stF S)), .int .i64 r, .int .u64 f] w fun e w' => e = .returned (.int .i64 (toldI S r d)) ∧ Kept w w' := by
  have s0 := st_new w S
  have kb := (Only.refl (fun _ => False) w).alloc (.cells (rowOf 65 (stF S)) 27)
  by_cases p0 : r ≤ 0
  · have h : toldI S r d = -1 := by unfold toldI; rw [if_neg (by omega)]
    rw [h]
    clear h
    go_enter Tryd.func25, Tryd.ntmps25
    go_wp2_with fail
    go_ret
    exact ⟨rfl, kb⟩
  by_cases p1 : 32 ≤ r
  · have h : toldI S r d = -1 := by unfold toldI; rw [if_neg (by omega)]
    rw [h]
    clear h
    go_enter Tryd.func25, Tryd.ntmps25
    go_wp2_with fail
    go_ret
    exact ⟨rfl, kb⟩
  · obtain ⟨R, rfl⟩ := Int.eq_ofNat_of_zero_le (show 0 ≤ r by omega)
    have h : toldI S (R : Int) d = S.X R / d % 256 := by unfold toldI; rw [if_pos (by omega), Int.toNat_natCast]
    rw [h]
    clear h
    have cx := st_x s0 (i := R) (by omega)
    have u0 := hS.X R (by omega)
    have hR : (R : Int) < 32 := by omega
    have hR0 : (0 : Int) ≤ (R : Int) := by omega
    generalize S.X R = v at *
    go_enter Tryd.func25, Tryd.ntmps25
    go_upto_region 1 with fail
    generalize w.alloc (.cells (rowOf 65 (stF S)) 27) = w1 at kb cx ⊢
    go_wp2_with (go_at_call 24; refine (fnum_any f d hf v u0 _).mono ?_; rintro e w2 ⟨rfl, rfl⟩)
    go_ret
    exact ⟨rfl, kb⟩
/-- Whether an instruction may write a register of control. -/
def mayB (op rs1 imm : Int) : Bool := decide (54 ≤ op ∧ op ≤ 59) && wrB14 op rs1 imm
theorem may_54 (rs1 imm : Int) : mayB 54 rs1 imm = true := by unfold mayB wrB14; rfl
theorem may_57 (rs1 imm : Int) : mayB 57 rs1 imm = true := by unfold mayB wrB14; rfl
theorem may_no {op : Int} (rs1 imm : Int) (h : ¬ (54 ≤ op ∧ op ≤ 59)) : mayB op rs1 imm = false := by unfold mayB; rw [decide_eq_false h]; rfl
theorem may_mid {op : Int} (rs1 imm : Int) (h : op = 55 ∨ op = 56 ∨ op = 58 ∨ op = 59) : mayB op rs1 imm = ((rs1 != 0) || (imm != 0)) := by
  rcases h with rfl | rfl | rfl | rfl <;> rfl
set_option maxHeartbeats 1000000 in
theorem fmay_any (op rd rs1 rs2 imm csr : Int) (w : World) :
    Calls Tryd.prog 26 #[.agg (inA op rd rs1 rs2 imm csr)] w fun e w' => e = .returned (.bool (mayB op rs1 imm)) ∧ Kept w w' := by
  by_cases h1 : op = 54
  · subst h1
    rw [may_54]
    unfold inA
    go_enter Tryd.func26, Tryd.ntmps26
    go_wp2_with fail
    go_ret
    exact ⟨rfl, (Only.refl _ w).alloc _⟩
  by_cases h2 : op = 57
  · subst h2
    rw [may_57]
    unfold inA
    go_enter Tryd.func26, Tryd.ntmps26
    go_wp2_with fail
    go_ret
    exact ⟨rfl, (Only.refl _ w).alloc _⟩
  by_cases hm : op = 55 ∨ op = 56 ∨ op = 58 ∨ op = 59
  · rw [may_mid rs1 imm hm]
    unfold inA
    rcases hm with rfl | rfl | rfl | rfl <;> cases h3 : rs1 != 0 <;> cases h4 : imm != 0
    all_goals
      go_enter Tryd.func26, Tryd.ntmps26
      go_wp2_with fail
      go_ret
      exact ⟨rfl, (Only.refl _ w).alloc _⟩
  · have n1 : (op == 54) = false := beq_eq_false_iff_ne.2 h1
    have n2 : (op == 57) = false := beq_eq_false_iff_ne.2 h2
    have n3 : (op == 55) = false := beq_eq_false_iff_ne.2 (by omega)
    have n4 : (op == 56) = false := beq_eq_false_iff_ne.2 (by omega)
    have n5 : (op == 58) = false := beq_eq_false_iff_ne.2 (by omega)
    have n6 : (op == 59) = false := beq_eq_false_iff_ne.2 (by omega)
    rw [may_no rs1 imm (by omega)]
    unfold inA
    clear h1 h2 hm
    go_enter Tryd.func26, Tryd.ntmps26
    go_wp2_with fail
    go_ret
    exact ⟨rfl, (Only.refl _ w).alloc _⟩
/-- Whether a number is that of a table's root. -/
def rootB (n : Int) : Bool := (n == 384) || ((n == 640) || (n == 1664))
theorem idx_at {n : Int} {k : Nat} (hk : k < 29) (h : idxI n = (k : Int)) : n = numI (k : Int) := by
  obtain ⟨i, _, h1, h2, _⟩ := idx_yes (n := n) (by rw [h]; omega)
  rw [h] at h1
  rw [h1]; exact h2.symm
theorem root_ways (n : Int) : (idxI n = 15 ∧ rootB n = true) ∨ (idxI n = 28 ∧ rootB n = true) ∨ (idxI n = 21 ∧ rootB n = true) ∨ ((idxI n == 15) = false ∧ (idxI n == 28) = false ∧ (idxI n == 21) = false ∧ rootB n = false) := by
  unfold rootB
  by_cases h1 : n = 384
  · subst h1; exact .inl ⟨by decide, rfl⟩
  by_cases h2 : n = 640
  · subst h2; exact .inr (.inl ⟨by decide, rfl⟩)
  by_cases h3 : n = 1664
  · subst h3; exact .inr (.inr (.inl ⟨by decide, rfl⟩))
  · refine .inr (.inr (.inr ⟨beq_eq_false_iff_ne.2 fun h => h1 ?_, beq_eq_false_iff_ne.2 fun h => h2 ?_, beq_eq_false_iff_ne.2 fun h => h3 ?_, ?_⟩))
    · exact idx_at (k := 15) (by omega) h
    · exact idx_at (k := 28) (by omega) h
    · exact idx_at (k := 21) (by omega) h
    · rw [beq_eq_false_iff_ne.2 h1, beq_eq_false_iff_ne.2 h2, beq_eq_false_iff_ne.2 h3]; rfl
set_option maxHeartbeats 1000000 in
theorem fturn_any {w : World} (hT : Tab14 w) (S : StM) (csr : Int) :
    Calls Tryd.prog 27 #[.agg (rowOf 65 (stF S)), .int .i64 csr] w fun e w' => e = .returned (.bool (rootB (numD S csr))) ∧ Kept w w' := by
  have s0 := st_new w S
  have kb := (Only.refl (fun _ => False) w).alloc (.cells (rowOf 65 (stF S)) 27)
  have cv := st_v s0
  unfold numD
  cases hv : S.v
  · rw [hv] at cv
    rw [cond_false]
    have hx := root_ways csr
    have hc := fun w2 (k : Kept w w2) => cidx_c (hT.kept k).c csr
    generalize idxI csr = x at *
    generalize rootB csr = r at *
    rcases hx with ⟨rfl, rfl⟩ | ⟨rfl, rfl⟩ | ⟨rfl, rfl⟩ | ⟨x1, x2, x3, rfl⟩
    all_goals
      go_enter Tryd.func27, Tryd.ntmps27
      go_upto_region 1 with fail
      generalize w.alloc (.cells (rowOf 65 (stF S)) 27) = w1 at kb cv ⊢
      go_wp2_with fail
      refine (hc _ kb).mono ?_
      rintro e w3 ⟨rfl, k3⟩
      go_wp2_with fail
      go_ret
      exact ⟨rfl, kb.then k3⟩
  · rw [hv] at cv
    rw [cond_true]
    have hx := root_ways (redI csr)
    have hr := fun w2 (k : Kept w w2) => cred_c (hT.kept k).g csr
    generalize redI csr = n at *
    have hc := fun w2 (k : Kept w w2) => cidx_c (hT.kept k).c n
    generalize idxI n = x at *
    generalize rootB n = r at *
    rcases hx with ⟨rfl, rfl⟩ | ⟨rfl, rfl⟩ | ⟨rfl, rfl⟩ | ⟨x1, x2, x3, rfl⟩
    all_goals
      go_enter Tryd.func27, Tryd.ntmps27
      go_upto_region 1 with fail
      generalize w.alloc (.cells (rowOf 65 (stF S)) 27) = w1 at kb cv ⊢
      go_wp2_with fail
      refine (hr _ kb).mono ?_
      rintro e w2 ⟨rfl, k2⟩
      have k5 := kb.then k2
      go_wp2_with fail
      refine (hc _ k5).mono ?_
      rintro e w3 ⟨rfl, k3⟩
      go_wp2_with fail
      go_ret
      exact ⟨rfl, k5.then k3⟩
theorem all_root (S : StM) (op rs1 imm csr : Int) : allD S op rs1 imm csr = (mayB op rs1 imm && rootB (numD S csr)) := by
  unfold allD mayB rootB
  rw [Bool.and_assoc]
theorem St14D {w w' : World} {s b : Nat} {S : StM} (h : StAt w s S) (g : Only (fun i => i = b) w w') (hn : ¬ s = b) : StAt w' s S := World.rowIs.of_block h (g.same s (World.rowIs.lt h) hn)
theorem ins_sizeD (op rd rs1 rs2 imm csr : Int) : (Tryd.prog.info? 29).map (·.size) = some (inA op rd rs1 rs2 imm csr).size := by
  rw [show (inA op rd rs1 rs2 imm csr).size = 6 from rfl]
  kernel_rfl
section
variable {w : World} {b : Nat} {T : Nat → EntM} {S : StM}
set_option maxRecDepth 10000 in
set_option maxHeartbeats 4000000 in
theorem fdo_fence (hT : Tab14 w) (ht : PTl w b T) (hI : InvG T) (hS : S.Ok) (rd rs1 rs2 imm csr : Int) :
    Calls Tryd.prog 12 #[.pointer (some ⟨b, 0, none⟩), .agg (rowOf 65 (stF S)), .agg (inA 63 rd rs1 rs2 imm csr)] w fun r w' => r = .returned (.int .i64 (cntT (doB S 63 rs1 rs2 imm csr) T : Nat)) ∧ PTl w' b (wipeT (doB S 63 rs1 rs2 imm csr) T) ∧ Only (fun i => i = b) w w' := by
  rw [doB_63, ← told_a S (op := 63) rs1 (by decide), ← told_b]
  have s0 := st_new w S
  have n1 : (w.alloc (.cells (rowOf 65 (stF S)) 27)).heap.size = w.heap.size + 1 := Go.Deep.nblk_alloc _ _
  have i0 := alloc_last (w.alloc (.cells (rowOf 65 (stF S)) 27)) (inA 63 rd rs1 rs2 imm csr) 29
  rw [n1] at i0
  have s1 : StAt ((w.alloc (.cells (rowOf 65 (stF S)) 27)).alloc (.cells (inA 63 rd rs1 rs2 imm csr) 29)) w.heap.size S := World.rowIs.of_block s0 (((Only.refl (fun _ => False) (w.alloc (.cells (rowOf 65 (stF S)) 27))).alloc _).same _ (World.rowIs.lt s0) id)
  have kb : Kept w ((w.alloc (.cells (rowOf 65 (stF S)) 27)).alloc (.cells (inA 63 rd rs1 rs2 imm csr) 29)) := ((Only.refl _ w).alloc _).alloc _
  have hlb := ht.lt
  clear s0 n1
  go_enter Tryd.func12, Tryd.ntmps12
  go_upto_region 1 with fail
  generalize ((w.alloc (.cells (rowOf 65 (stF S)) 27)).alloc (.cells (inA 63 rd rs1 rs2 imm csr) 29)) = w1 at i0 s1 kb ⊢
  have c0 : _ = some (Value.int .i64 63) := Blk.cell i0 0
  go_upto_region 3 with fail
  have hib : ¬ w.heap.size + 1 = b := by omega
  have hsb : ¬ w.heap.size = b := by omega
  have s9 : StAt w1.drew w.heap.size S := World.rowIs.of_block s1 (((Only.refl (fun _ => False) w1).drew).same _ (World.rowIs.lt s1) id)
  have i9 : Blk w1.drew (w.heap.size + 1) 29 (inA 63 rd rs1 rs2 imm csr) := Blk.kept i0 ((Only.refl _ w1).drew)
  have hk9 : Kept w w1.drew := kb.then ((Only.refl _ w1).drew)
  clear i0 s1 kb c0
  generalize w.heap.size = sb at *
  refine wp_region_held_drew (S := fun w2 => Only (fun i => i = b) w1.drew w2) (by kernel_rfl) (Only.refl _ _) (fun hHeld => ?_)
  generalize w1.drew = wd at *
  have hq := hk9
  refine wpAnyH_take (i := 0) (v := ?_) rfl (by kernel_rfl) (by kernel_rfl) (by kernel_rfl) (fun _ _ _ h => h) (Or.inl ⟨by rfl, ?_⟩) hHeld ?_
  rotate_left
  · intro w2 hSw
    go_simp
    all_goals rfl
  try simp only [Act.put, List.getElem_toArray, List.getElem_cons_zero, List.setIfInBounds_toArray, List.set_cons_zero, List.set_cons_succ]
  refine wpAnyH_take (i := 1) (v := .agg (rowOf 65 (stF S))) rfl (by kernel_rfl) (by kernel_rfl) (by kernel_rfl) (fun _ _ _ h => h) (Or.inl ⟨by rfl, ?_⟩) hHeld ?_
  · intro w2 hSw
    exact exec_load rfl rfl (load_row (St14D s9 hSw hsb) _ Tryd.underlying27 rfl st_size)
  try simp only [Act.put, List.getElem_toArray, List.getElem_cons_zero, List.getElem_cons_succ, List.setIfInBounds_toArray, List.set_cons_zero, List.set_cons_succ]
  refine wpAnyH_take (i := 2) (v := .agg (rowOf 65 (stF S))) rfl (by kernel_rfl) (by kernel_rfl) (by kernel_rfl) (fun _ _ _ h => h) (Or.inl ⟨by rfl, ?_⟩) hHeld ?_
  · intro w2 hSw
    exact exec_load rfl rfl (load_row (St14D s9 hSw hsb) _ Tryd.underlying27 rfl st_size)
  try simp only [Act.put, List.getElem_toArray, List.getElem_cons_zero, List.getElem_cons_succ, List.setIfInBounds_toArray, List.set_cons_zero, List.set_cons_succ]
  refine wpAnyH_take (i := 3) (v := ?_) rfl (by kernel_rfl) (by kernel_rfl) (by kernel_rfl) (fun _ _ _ h => h) (Or.inl ⟨by rfl, ?_⟩) hHeld ?_
  rotate_left
  · intro w2 hSw
    go_simp
    all_goals rfl
  try simp only [Act.put, List.getElem_toArray, List.getElem_cons_zero, List.getElem_cons_succ, List.setIfInBounds_toArray, List.set_cons_zero, List.set_cons_succ]
  refine wpAnyH_take (i := 4) (v := .int .i64 rs1) rfl (by kernel_rfl) (by kernel_rfl) (by kernel_rfl) (fun _ _ _ h => h) (Or.inl ⟨by rfl, ?_⟩) hHeld ?_
  · intro w2 hSw
    exact exec_load rfl rfl (run_loadVar_cell9 (Blk.cell (hSw.block i9 hib) 2) rfl Tryd.underlying3)
  try simp only [Act.put, List.getElem_toArray, List.getElem_cons_zero, List.getElem_cons_succ, List.setIfInBounds_toArray, List.set_cons_zero, List.set_cons_succ]
  refine wpAnyH_take (i := 6) (v := .agg (rowOf 65 (stF S))) rfl (by kernel_rfl) (by kernel_rfl) (by kernel_rfl) (fun _ _ _ h => h) (Or.inl ⟨by rfl, ?_⟩) hHeld ?_
  · intro w2 hSw
    exact exec_load rfl rfl (load_row (St14D s9 hSw hsb) _ Tryd.underlying27 rfl st_size)
  try simp only [Act.put, List.getElem_toArray, List.getElem_cons_zero, List.getElem_cons_succ, List.setIfInBounds_toArray, List.set_cons_zero, List.set_cons_succ]
  refine wpAnyH_take (i := 7) (v := ?_) rfl (by kernel_rfl) (by kernel_rfl) (by kernel_rfl) (fun _ _ _ h => h) (Or.inl ⟨by rfl, ?_⟩) hHeld ?_
  rotate_left
  · intro w2 hSw
    go_simp
    all_goals rfl
  try simp only [Act.put, List.getElem_toArray, List.getElem_cons_zero, List.getElem_cons_succ, List.setIfInBounds_toArray, List.set_cons_zero, List.set_cons_succ]
  refine wpAnyH_take (i := 8) (v := .int .i64 rs2) rfl (by kernel_rfl) (by kernel_rfl) (by kernel_rfl) (fun _ _ _ h => h) (Or.inl ⟨by rfl, ?_⟩) hHeld ?_
  · intro w2 hSw
    exact exec_load rfl rfl (run_loadVar_cell9 (Blk.cell (hSw.block i9 hib) 3) rfl Tryd.underlying3)
  try simp only [Act.put, List.getElem_toArray, List.getElem_cons_zero, List.getElem_cons_succ, List.setIfInBounds_toArray, List.set_cons_zero, List.set_cons_succ]
  refine wpAnyH_ready (rs := [5]) (by kernel_rfl) (by simp) ?_
  refine AllReadyH.cons rfl (fun K hK => ?_) AllReadyH.nil
  go_simp
  refine (ftold_any hS 8 256 (by simp) rs1).mono ?_
  rintro r wn ⟨rfl, kn⟩
  go_simp
  refine hK.out _ _ (hHeld.trans (kn.mono (T := fun i => i = b) fun _ x => x.elim)) (fun hHeld => ?_)
  have kq := hq.then kn
  clear hK K kn
  try simp only [Act.put, List.getElem_toArray, List.getElem_cons_zero, List.getElem_cons_succ, List.setIfInBounds_toArray, List.set_cons_zero, List.set_cons_succ]
  refine wpAnyH_ready (rs := [9]) (by kernel_rfl) (by simp) ?_
  refine AllReadyH.cons rfl (fun K hK => ?_) AllReadyH.nil
  go_simp
  refine (ftold_any hS 0 1 (by simp) rs2).mono ?_
  rintro r wn ⟨rfl, kn⟩
  go_simp
  refine hK.out _ _ (hHeld.trans (kn.mono (T := fun i => i = b) fun _ x => x.elim)) (fun hHeld => ?_)
  have kq2 := kq.then kn
  clear hK K kn
  try simp only [Act.put, List.getElem_toArray, List.getElem_cons_zero, List.getElem_cons_succ, List.setIfInBounds_toArray, List.set_cons_zero, List.set_cons_succ]
  refine wpAnyH_ready (rs := [10]) (by kernel_rfl) (by simp) ?_
  refine AllReadyH.cons rfl (fun K hK => ?_) AllReadyH.nil
  go_simp
  refine (fsfence_any (hT.kept kq2) (ht.kept kq2) hI hS _ _).mono ?_
  rintro r wz ⟨rfl, hz, kz⟩
  go_simp
  refine hK.out _ _ (hHeld.trans kz) (fun hHeld => ?_)
  have kfin := Kept.then kq2 kz
  clear hK K
  try simp only [Act.put, List.getElem_toArray, List.getElem_cons_zero, List.getElem_cons_succ, List.setIfInBounds_toArray, List.set_cons_zero, List.set_cons_succ]
  refine wpAnyH_take (i := 11) (v := ?_) rfl (by kernel_rfl) (by kernel_rfl) (by kernel_rfl) (fun _ _ _ h => h) (Or.inl ⟨by rfl, ?_⟩) hHeld ?_
  rotate_left
  · intro w2 hSw
    go_simp
    all_goals rfl
  try simp only [Act.put, List.getElem_toArray, List.getElem_cons_zero, List.getElem_cons_succ, List.setIfInBounds_toArray, List.set_cons_zero, List.set_cons_succ]
  refine wpAnyH_done (by kernel_rfl) ?_ _
  go_wp2_with fail
  go_ret
  exact ⟨rfl, hz, kfin⟩
set_option maxRecDepth 10000 in
set_option maxHeartbeats 4000000 in
theorem fdo_guest (hT : Tab14 w) (ht : PTl w b T) (hI : InvG T) (hS : S.Ok) (rd rs1 rs2 imm csr : Int) :
    Calls Tryd.prog 12 #[.pointer (some ⟨b, 0, none⟩), .agg (rowOf 65 (stF S)), .agg (inA 64 rd rs1 rs2 imm csr)] w fun r w' => r = .returned (.int .i64 (cntT (doB S 64 rs1 rs2 imm csr) T : Nat)) ∧ PTl w' b (wipeT (doB S 64 rs1 rs2 imm csr) T) ∧ Only (fun i => i = b) w w' := by
  rw [doB_64, ← told_a S (op := 64) rs1 (by decide), ← told_b]
  have s0 := st_new w S
  have n1 : (w.alloc (.cells (rowOf 65 (stF S)) 27)).heap.size = w.heap.size + 1 := Go.Deep.nblk_alloc _ _
  have i0 := alloc_last (w.alloc (.cells (rowOf 65 (stF S)) 27)) (inA 64 rd rs1 rs2 imm csr) 29
  rw [n1] at i0
  have s1 : StAt ((w.alloc (.cells (rowOf 65 (stF S)) 27)).alloc (.cells (inA 64 rd rs1 rs2 imm csr) 29)) w.heap.size S := World.rowIs.of_block s0 (((Only.refl (fun _ => False) (w.alloc (.cells (rowOf 65 (stF S)) 27))).alloc _).same _ (World.rowIs.lt s0) id)
  have kb : Kept w ((w.alloc (.cells (rowOf 65 (stF S)) 27)).alloc (.cells (inA 64 rd rs1 rs2 imm csr) 29)) := ((Only.refl _ w).alloc _).alloc _
  have hlb := ht.lt
  clear s0 n1
  go_enter Tryd.func12, Tryd.ntmps12
  go_upto_region 1 with fail
  generalize ((w.alloc (.cells (rowOf 65 (stF S)) 27)).alloc (.cells (inA 64 rd rs1 rs2 imm csr) 29)) = w1 at i0 s1 kb ⊢
  have c0 : _ = some (Value.int .i64 64) := Blk.cell i0 0
  go_upto_region 5 with fail
  have hib : ¬ w.heap.size + 1 = b := by omega
  have hsb : ¬ w.heap.size = b := by omega
  have s9 : StAt w1.drew w.heap.size S := World.rowIs.of_block s1 (((Only.refl (fun _ => False) w1).drew).same _ (World.rowIs.lt s1) id)
  have i9 : Blk w1.drew (w.heap.size + 1) 29 (inA 64 rd rs1 rs2 imm csr) := Blk.kept i0 ((Only.refl _ w1).drew)
  have hk9 : Kept w w1.drew := kb.then ((Only.refl _ w1).drew)
  clear i0 s1 kb c0
  generalize w.heap.size = sb at *
  refine wp_region_held_drew (S := fun w2 => Only (fun i => i = b) w1.drew w2) (by kernel_rfl) (Only.refl _ _) (fun hHeld => ?_)
  generalize w1.drew = wd at *
  have hq := hk9
  refine wpAnyH_take (i := 0) (v := ?_) rfl (by kernel_rfl) (by kernel_rfl) (by kernel_rfl) (fun _ _ _ h => h) (Or.inl ⟨by rfl, ?_⟩) hHeld ?_
  rotate_left
  · intro w2 hSw
    go_simp
    all_goals rfl
  try simp only [Act.put, List.getElem_toArray, List.getElem_cons_zero, List.setIfInBounds_toArray, List.set_cons_zero, List.set_cons_succ]
  refine wpAnyH_take (i := 1) (v := .agg (rowOf 65 (stF S))) rfl (by kernel_rfl) (by kernel_rfl) (by kernel_rfl) (fun _ _ _ h => h) (Or.inl ⟨by rfl, ?_⟩) hHeld ?_
  · intro w2 hSw
    exact exec_load rfl rfl (load_row (St14D s9 hSw hsb) _ Tryd.underlying27 rfl st_size)
  try simp only [Act.put, List.getElem_toArray, List.getElem_cons_zero, List.getElem_cons_succ, List.setIfInBounds_toArray, List.set_cons_zero, List.set_cons_succ]
  refine wpAnyH_take (i := 2) (v := .agg (rowOf 65 (stF S))) rfl (by kernel_rfl) (by kernel_rfl) (by kernel_rfl) (fun _ _ _ h => h) (Or.inl ⟨by rfl, ?_⟩) hHeld ?_
  · intro w2 hSw
    exact exec_load rfl rfl (load_row (St14D s9 hSw hsb) _ Tryd.underlying27 rfl st_size)
  try simp only [Act.put, List.getElem_toArray, List.getElem_cons_zero, List.getElem_cons_succ, List.setIfInBounds_toArray, List.set_cons_zero, List.set_cons_succ]
  refine wpAnyH_take (i := 3) (v := ?_) rfl (by kernel_rfl) (by kernel_rfl) (by kernel_rfl) (fun _ _ _ h => h) (Or.inl ⟨by rfl, ?_⟩) hHeld ?_
  rotate_left
  · intro w2 hSw
    go_simp
    all_goals rfl
  try simp only [Act.put, List.getElem_toArray, List.getElem_cons_zero, List.getElem_cons_succ, List.setIfInBounds_toArray, List.set_cons_zero, List.set_cons_succ]
  refine wpAnyH_take (i := 4) (v := .int .i64 rs1) rfl (by kernel_rfl) (by kernel_rfl) (by kernel_rfl) (fun _ _ _ h => h) (Or.inl ⟨by rfl, ?_⟩) hHeld ?_
  · intro w2 hSw
    exact exec_load rfl rfl (run_loadVar_cell9 (Blk.cell (hSw.block i9 hib) 2) rfl Tryd.underlying3)
  try simp only [Act.put, List.getElem_toArray, List.getElem_cons_zero, List.getElem_cons_succ, List.setIfInBounds_toArray, List.set_cons_zero, List.set_cons_succ]
  refine wpAnyH_take (i := 6) (v := .agg (rowOf 65 (stF S))) rfl (by kernel_rfl) (by kernel_rfl) (by kernel_rfl) (fun _ _ _ h => h) (Or.inl ⟨by rfl, ?_⟩) hHeld ?_
  · intro w2 hSw
    exact exec_load rfl rfl (load_row (St14D s9 hSw hsb) _ Tryd.underlying27 rfl st_size)
  try simp only [Act.put, List.getElem_toArray, List.getElem_cons_zero, List.getElem_cons_succ, List.setIfInBounds_toArray, List.set_cons_zero, List.set_cons_succ]
  refine wpAnyH_take (i := 7) (v := ?_) rfl (by kernel_rfl) (by kernel_rfl) (by kernel_rfl) (fun _ _ _ h => h) (Or.inl ⟨by rfl, ?_⟩) hHeld ?_
  rotate_left
  · intro w2 hSw
    go_simp
    all_goals rfl
  try simp only [Act.put, List.getElem_toArray, List.getElem_cons_zero, List.getElem_cons_succ, List.setIfInBounds_toArray, List.set_cons_zero, List.set_cons_succ]
  refine wpAnyH_take (i := 8) (v := .int .i64 rs2) rfl (by kernel_rfl) (by kernel_rfl) (by kernel_rfl) (fun _ _ _ h => h) (Or.inl ⟨by rfl, ?_⟩) hHeld ?_
  · intro w2 hSw
    exact exec_load rfl rfl (run_loadVar_cell9 (Blk.cell (hSw.block i9 hib) 3) rfl Tryd.underlying3)
  try simp only [Act.put, List.getElem_toArray, List.getElem_cons_zero, List.getElem_cons_succ, List.setIfInBounds_toArray, List.set_cons_zero, List.set_cons_succ]
  refine wpAnyH_ready (rs := [5]) (by kernel_rfl) (by simp) ?_
  refine AllReadyH.cons rfl (fun K hK => ?_) AllReadyH.nil
  go_simp
  refine (ftold_any hS 8 256 (by simp) rs1).mono ?_
  rintro r wn ⟨rfl, kn⟩
  go_simp
  refine hK.out _ _ (hHeld.trans (kn.mono (T := fun i => i = b) fun _ x => x.elim)) (fun hHeld => ?_)
  have kq := hq.then kn
  clear hK K kn
  try simp only [Act.put, List.getElem_toArray, List.getElem_cons_zero, List.getElem_cons_succ, List.setIfInBounds_toArray, List.set_cons_zero, List.set_cons_succ]
  refine wpAnyH_ready (rs := [9]) (by kernel_rfl) (by simp) ?_
  refine AllReadyH.cons rfl (fun K hK => ?_) AllReadyH.nil
  go_simp
  refine (ftold_any hS 0 1 (by simp) rs2).mono ?_
  rintro r wn ⟨rfl, kn⟩
  go_simp
  refine hK.out _ _ (hHeld.trans (kn.mono (T := fun i => i = b) fun _ x => x.elim)) (fun hHeld => ?_)
  have kq2 := kq.then kn
  clear hK K kn
  try simp only [Act.put, List.getElem_toArray, List.getElem_cons_zero, List.getElem_cons_succ, List.setIfInBounds_toArray, List.set_cons_zero, List.set_cons_succ]
  refine wpAnyH_ready (rs := [10]) (by kernel_rfl) (by simp) ?_
  refine AllReadyH.cons rfl (fun K hK => ?_) AllReadyH.nil
  go_simp
  refine (fguest_any (hT.kept kq2) (ht.kept kq2) hI hS _ _).mono ?_
  rintro r wz ⟨rfl, hz, kz⟩
  go_simp
  refine hK.out _ _ (hHeld.trans kz) (fun hHeld => ?_)
  have kfin := Kept.then kq2 kz
  clear hK K
  try simp only [Act.put, List.getElem_toArray, List.getElem_cons_zero, List.getElem_cons_succ, List.setIfInBounds_toArray, List.set_cons_zero, List.set_cons_succ]
  refine wpAnyH_take (i := 11) (v := ?_) rfl (by kernel_rfl) (by kernel_rfl) (by kernel_rfl) (fun _ _ _ h => h) (Or.inl ⟨by rfl, ?_⟩) hHeld ?_
  rotate_left
  · intro w2 hSw
    go_simp
    all_goals rfl
  try simp only [Act.put, List.getElem_toArray, List.getElem_cons_zero, List.getElem_cons_succ, List.setIfInBounds_toArray, List.set_cons_zero, List.set_cons_succ]
  refine wpAnyH_done (by kernel_rfl) ?_ _
  go_wp2_with fail
  go_ret
  exact ⟨rfl, hz, kfin⟩
set_option maxRecDepth 10000 in
set_option maxHeartbeats 4000000 in
theorem fdo_host (hT : Tab14 w) (ht : PTl w b T) (hI : InvG T) (hS : S.Ok) (rd rs1 rs2 imm csr : Int) :
    Calls Tryd.prog 12 #[.pointer (some ⟨b, 0, none⟩), .agg (rowOf 65 (stF S)), .agg (inA 65 rd rs1 rs2 imm csr)] w fun r w' => r = .returned (.int .i64 (cntT (doB S 65 rs1 rs2 imm csr) T : Nat)) ∧ PTl w' b (wipeT (doB S 65 rs1 rs2 imm csr) T) ∧ Only (fun i => i = b) w w' := by
  rw [doB_65, ← told_g, ← told_b]
  have s0 := st_new w S
  have n1 : (w.alloc (.cells (rowOf 65 (stF S)) 27)).heap.size = w.heap.size + 1 := Go.Deep.nblk_alloc _ _
  have i0 := alloc_last (w.alloc (.cells (rowOf 65 (stF S)) 27)) (inA 65 rd rs1 rs2 imm csr) 29
  rw [n1] at i0
  have s1 : StAt ((w.alloc (.cells (rowOf 65 (stF S)) 27)).alloc (.cells (inA 65 rd rs1 rs2 imm csr) 29)) w.heap.size S := World.rowIs.of_block s0 (((Only.refl (fun _ => False) (w.alloc (.cells (rowOf 65 (stF S)) 27))).alloc _).same _ (World.rowIs.lt s0) id)
  have kb : Kept w ((w.alloc (.cells (rowOf 65 (stF S)) 27)).alloc (.cells (inA 65 rd rs1 rs2 imm csr) 29)) := ((Only.refl _ w).alloc _).alloc _
  have hlb := ht.lt
  clear s0 n1
  go_enter Tryd.func12, Tryd.ntmps12
  go_upto_region 1 with fail
  generalize ((w.alloc (.cells (rowOf 65 (stF S)) 27)).alloc (.cells (inA 65 rd rs1 rs2 imm csr) 29)) = w1 at i0 s1 kb ⊢
  have c0 : _ = some (Value.int .i64 65) := Blk.cell i0 0
  go_upto_region 7 with fail
  have hib : ¬ w.heap.size + 1 = b := by omega
  have hsb : ¬ w.heap.size = b := by omega
  have s9 : StAt w1.drew w.heap.size S := World.rowIs.of_block s1 (((Only.refl (fun _ => False) w1).drew).same _ (World.rowIs.lt s1) id)
  have i9 : Blk w1.drew (w.heap.size + 1) 29 (inA 65 rd rs1 rs2 imm csr) := Blk.kept i0 ((Only.refl _ w1).drew)
  have hk9 : Kept w w1.drew := kb.then ((Only.refl _ w1).drew)
  clear i0 s1 kb c0
  generalize w.heap.size = sb at *
  refine wp_region_held_drew (S := fun w2 => Only (fun i => i = b) w1.drew w2) (by kernel_rfl) (Only.refl _ _) (fun hHeld => ?_)
  generalize w1.drew = wd at *
  have hq := hk9
  refine wpAnyH_take (i := 0) (v := ?_) rfl (by kernel_rfl) (by kernel_rfl) (by kernel_rfl) (fun _ _ _ h => h) (Or.inl ⟨by rfl, ?_⟩) hHeld ?_
  rotate_left
  · intro w2 hSw
    go_simp
    all_goals rfl
  try simp only [Act.put, List.getElem_toArray, List.getElem_cons_zero, List.setIfInBounds_toArray, List.set_cons_zero, List.set_cons_succ]
  refine wpAnyH_take (i := 1) (v := .agg (rowOf 65 (stF S))) rfl (by kernel_rfl) (by kernel_rfl) (by kernel_rfl) (fun _ _ _ h => h) (Or.inl ⟨by rfl, ?_⟩) hHeld ?_
  · intro w2 hSw
    exact exec_load rfl rfl (load_row (St14D s9 hSw hsb) _ Tryd.underlying27 rfl st_size)
  try simp only [Act.put, List.getElem_toArray, List.getElem_cons_zero, List.getElem_cons_succ, List.setIfInBounds_toArray, List.set_cons_zero, List.set_cons_succ]
  refine wpAnyH_take (i := 2) (v := .agg (rowOf 65 (stF S))) rfl (by kernel_rfl) (by kernel_rfl) (by kernel_rfl) (fun _ _ _ h => h) (Or.inl ⟨by rfl, ?_⟩) hHeld ?_
  · intro w2 hSw
    exact exec_load rfl rfl (load_row (St14D s9 hSw hsb) _ Tryd.underlying27 rfl st_size)
  try simp only [Act.put, List.getElem_toArray, List.getElem_cons_zero, List.getElem_cons_succ, List.setIfInBounds_toArray, List.set_cons_zero, List.set_cons_succ]
  refine wpAnyH_take (i := 3) (v := ?_) rfl (by kernel_rfl) (by kernel_rfl) (by kernel_rfl) (fun _ _ _ h => h) (Or.inl ⟨by rfl, ?_⟩) hHeld ?_
  rotate_left
  · intro w2 hSw
    go_simp
    all_goals rfl
  try simp only [Act.put, List.getElem_toArray, List.getElem_cons_zero, List.getElem_cons_succ, List.setIfInBounds_toArray, List.set_cons_zero, List.set_cons_succ]
  refine wpAnyH_take (i := 4) (v := .int .i64 rs1) rfl (by kernel_rfl) (by kernel_rfl) (by kernel_rfl) (fun _ _ _ h => h) (Or.inl ⟨by rfl, ?_⟩) hHeld ?_
  · intro w2 hSw
    exact exec_load rfl rfl (run_loadVar_cell9 (Blk.cell (hSw.block i9 hib) 2) rfl Tryd.underlying3)
  try simp only [Act.put, List.getElem_toArray, List.getElem_cons_zero, List.getElem_cons_succ, List.setIfInBounds_toArray, List.set_cons_zero, List.set_cons_succ]
  refine wpAnyH_take (i := 6) (v := .agg (rowOf 65 (stF S))) rfl (by kernel_rfl) (by kernel_rfl) (by kernel_rfl) (fun _ _ _ h => h) (Or.inl ⟨by rfl, ?_⟩) hHeld ?_
  · intro w2 hSw
    exact exec_load rfl rfl (load_row (St14D s9 hSw hsb) _ Tryd.underlying27 rfl st_size)
  try simp only [Act.put, List.getElem_toArray, List.getElem_cons_zero, List.getElem_cons_succ, List.setIfInBounds_toArray, List.set_cons_zero, List.set_cons_succ]
  refine wpAnyH_take (i := 7) (v := ?_) rfl (by kernel_rfl) (by kernel_rfl) (by kernel_rfl) (fun _ _ _ h => h) (Or.inl ⟨by rfl, ?_⟩) hHeld ?_
  rotate_left
  · intro w2 hSw
    go_simp
    all_goals rfl
  try simp only [Act.put, List.getElem_toArray, List.getElem_cons_zero, List.getElem_cons_succ, List.setIfInBounds_toArray, List.set_cons_zero, List.set_cons_succ]
  refine wpAnyH_take (i := 8) (v := .int .i64 rs2) rfl (by kernel_rfl) (by kernel_rfl) (by kernel_rfl) (fun _ _ _ h => h) (Or.inl ⟨by rfl, ?_⟩) hHeld ?_
  · intro w2 hSw
    exact exec_load rfl rfl (run_loadVar_cell9 (Blk.cell (hSw.block i9 hib) 3) rfl Tryd.underlying3)
  try simp only [Act.put, List.getElem_toArray, List.getElem_cons_zero, List.getElem_cons_succ, List.setIfInBounds_toArray, List.set_cons_zero, List.set_cons_succ]
  refine wpAnyH_ready (rs := [5]) (by kernel_rfl) (by simp) ?_
  refine AllReadyH.cons rfl (fun K hK => ?_) AllReadyH.nil
  go_simp
  refine (ftold_any hS 6 64 (by simp) rs1).mono ?_
  rintro r wn ⟨rfl, kn⟩
  go_simp
  refine hK.out _ _ (hHeld.trans (kn.mono (T := fun i => i = b) fun _ x => x.elim)) (fun hHeld => ?_)
  have kq := hq.then kn
  clear hK K kn
  try simp only [Act.put, List.getElem_toArray, List.getElem_cons_zero, List.getElem_cons_succ, List.setIfInBounds_toArray, List.set_cons_zero, List.set_cons_succ]
  refine wpAnyH_ready (rs := [9]) (by kernel_rfl) (by simp) ?_
  refine AllReadyH.cons rfl (fun K hK => ?_) AllReadyH.nil
  go_simp
  refine (ftold_any hS 0 1 (by simp) rs2).mono ?_
  rintro r wn ⟨rfl, kn⟩
  go_simp
  refine hK.out _ _ (hHeld.trans (kn.mono (T := fun i => i = b) fun _ x => x.elim)) (fun hHeld => ?_)
  have kq2 := kq.then kn
  clear hK K kn
  try simp only [Act.put, List.getElem_toArray, List.getElem_cons_zero, List.getElem_cons_succ, List.setIfInBounds_toArray, List.set_cons_zero, List.set_cons_succ]
  refine wpAnyH_ready (rs := [10]) (by kernel_rfl) (by simp) ?_
  refine AllReadyH.cons rfl (fun K hK => ?_) AllReadyH.nil
  go_simp
  refine (fhost_any (hT.kept kq2) (ht.kept kq2) hI hS _ _).mono ?_
  rintro r wz ⟨rfl, hz, kz⟩
  go_simp
  refine hK.out _ _ (hHeld.trans kz) (fun hHeld => ?_)
  have kfin := Kept.then kq2 kz
  clear hK K
  try simp only [Act.put, List.getElem_toArray, List.getElem_cons_zero, List.getElem_cons_succ, List.setIfInBounds_toArray, List.set_cons_zero, List.set_cons_succ]
  refine wpAnyH_take (i := 11) (v := ?_) rfl (by kernel_rfl) (by kernel_rfl) (by kernel_rfl) (fun _ _ _ h => h) (Or.inl ⟨by rfl, ?_⟩) hHeld ?_
  rotate_left
  · intro w2 hSw
    go_simp
    all_goals rfl
  try simp only [Act.put, List.getElem_toArray, List.getElem_cons_zero, List.getElem_cons_succ, List.setIfInBounds_toArray, List.set_cons_zero, List.set_cons_succ]
  refine wpAnyH_done (by kernel_rfl) ?_ _
  go_wp2_with fail
  go_ret
  exact ⟨rfl, hz, kfin⟩
set_option maxRecDepth 10000 in
set_option maxHeartbeats 4000000 in
theorem fdo_other (hT : Tab14 w) (ht : PTl w b T) (op rd rs1 rs2 imm csr : Int) (n3 : (op == 63) = false) (n4 : (op == 64) = false) (n5 : (op == 65) = false) :
    Calls Tryd.prog 12 #[.pointer (some ⟨b, 0, none⟩), .agg (rowOf 65 (stF S)), .agg (inA op rd rs1 rs2 imm csr)] w fun r w' => r = .returned (.int .i64 (cntT (fun e => e.valid && (mayB op rs1 imm && rootB (numD S csr))) T : Nat)) ∧ PTl w' b (wipeT (fun e => e.valid && (mayB op rs1 imm && rootB (numD S csr))) T) ∧ Only (fun i => i = b) w w' := by
  have hmay := fmay_any op rd rs1 rs2 imm csr
  have hturn := fun w2 (k : Kept w w2) => fturn_any (hT.kept k) S csr
  obtain ⟨z1, z2⟩ := none_valid (fun e => e.valid && false) T fun e => Bool.and_false _
  have z3 := cnt_valid T
  have z4 := wipe_valid T ht.z
  generalize rootB (numD S csr) = r at *
  generalize mayB op rs1 imm = m at *
  cases m
  · rw [Bool.false_and, z1, z2]
    have s0 := st_new w S
    have n1 : (w.alloc (.cells (rowOf 65 (stF S)) 27)).heap.size = w.heap.size + 1 := Go.Deep.nblk_alloc _ _
    have i0 := alloc_last (w.alloc (.cells (rowOf 65 (stF S)) 27)) (inA op rd rs1 rs2 imm csr) 29
    rw [n1] at i0
    have s1 : StAt ((w.alloc (.cells (rowOf 65 (stF S)) 27)).alloc (.cells (inA op rd rs1 rs2 imm csr) 29)) w.heap.size S := World.rowIs.of_block s0 (((Only.refl (fun _ => False) (w.alloc (.cells (rowOf 65 (stF S)) 27))).alloc _).same _ (World.rowIs.lt s0) id)
    have kb : Kept w ((w.alloc (.cells (rowOf 65 (stF S)) 27)).alloc (.cells (inA op rd rs1 rs2 imm csr) 29)) := ((Only.refl _ w).alloc _).alloc _
    have hlb := ht.lt
    clear s0 n1
    go_enter Tryd.func12, Tryd.ntmps12
    go_upto_region 1 with fail
    generalize ((w.alloc (.cells (rowOf 65 (stF S)) 27)).alloc (.cells (inA op rd rs1 rs2 imm csr) 29)) = w1 at i0 s1 kb ⊢
    have c0 : _ = some (Value.int .i64 op) := Blk.cell i0 0
    go_wp2_with (first | (refine wpList_load_blk (by rfl) 29 _ rfl (w.heap.size + 1) rfl i0 _ Tryd.underlying29 rfl (ins_sizeD ..) ?_) | (go_at_call 26; refine (hmay w1).mono ?_; rintro e w2 ⟨rfl, k2⟩) | go_skip)
    go_ret
    exact ⟨rfl, ht.kept (kb.then k2), (kb.then k2).mono fun _ x => x.elim⟩
  · rw [Bool.true_and]
    cases r
    · rw [z1, z2]
      have s0 := st_new w S
      have n1 : (w.alloc (.cells (rowOf 65 (stF S)) 27)).heap.size = w.heap.size + 1 := Go.Deep.nblk_alloc _ _
      have i0 := alloc_last (w.alloc (.cells (rowOf 65 (stF S)) 27)) (inA op rd rs1 rs2 imm csr) 29
      rw [n1] at i0
      have s1 : StAt ((w.alloc (.cells (rowOf 65 (stF S)) 27)).alloc (.cells (inA op rd rs1 rs2 imm csr) 29)) w.heap.size S := World.rowIs.of_block s0 (((Only.refl (fun _ => False) (w.alloc (.cells (rowOf 65 (stF S)) 27))).alloc _).same _ (World.rowIs.lt s0) id)
      have kb : Kept w ((w.alloc (.cells (rowOf 65 (stF S)) 27)).alloc (.cells (inA op rd rs1 rs2 imm csr) 29)) := ((Only.refl _ w).alloc _).alloc _
      have hlb := ht.lt
      clear s0 n1
      go_enter Tryd.func12, Tryd.ntmps12
      go_upto_region 1 with fail
      generalize ((w.alloc (.cells (rowOf 65 (stF S)) 27)).alloc (.cells (inA op rd rs1 rs2 imm csr) 29)) = w1 at i0 s1 kb ⊢
      have c0 : _ = some (Value.int .i64 op) := Blk.cell i0 0
      go_wp2_with (first | (refine wpList_load_blk (by rfl) 29 _ rfl (w.heap.size + 1) rfl i0 _ Tryd.underlying29 rfl (ins_sizeD ..) ?_) | (go_at_call 26; refine (hmay w1).mono ?_; rintro e w2 ⟨rfl, k2⟩; replace i0 := Blk.kept i0 k2; have c5 : _ = some (Value.int .i64 csr) := Blk.cell i0 5; replace s1 : StAt w2 w.heap.size S := World.rowIs.of_block s1 (k2.same _ (World.rowIs.lt s1) id)) | (refine wpList_load_is (by rfl) 27 _ rfl rfl s1 _ Tryd.underlying27 rfl st_size ?_) | (go_at_call 27; refine (hturn w2 (kb.then k2)).mono ?_; rintro e w3 ⟨rfl, k3⟩))
      go_ret
      exact ⟨rfl, ht.kept ((kb.then k2).then k3), ((kb.then k2).then k3).mono fun _ x => x.elim⟩
    · rw [z3]
      have s0 := st_new w S
      have n1 : (w.alloc (.cells (rowOf 65 (stF S)) 27)).heap.size = w.heap.size + 1 := Go.Deep.nblk_alloc _ _
      have i0 := alloc_last (w.alloc (.cells (rowOf 65 (stF S)) 27)) (inA op rd rs1 rs2 imm csr) 29
      rw [n1] at i0
      have s1 : StAt ((w.alloc (.cells (rowOf 65 (stF S)) 27)).alloc (.cells (inA op rd rs1 rs2 imm csr) 29)) w.heap.size S := World.rowIs.of_block s0 (((Only.refl (fun _ => False) (w.alloc (.cells (rowOf 65 (stF S)) 27))).alloc _).same _ (World.rowIs.lt s0) id)
      have kb : Kept w ((w.alloc (.cells (rowOf 65 (stF S)) 27)).alloc (.cells (inA op rd rs1 rs2 imm csr) 29)) := ((Only.refl _ w).alloc _).alloc _
      have hlb := ht.lt
      clear s0 n1
      go_enter Tryd.func12, Tryd.ntmps12
      go_upto_region 1 with fail
      generalize ((w.alloc (.cells (rowOf 65 (stF S)) 27)).alloc (.cells (inA op rd rs1 rs2 imm csr) 29)) = w1 at i0 s1 kb ⊢
      have c0 : _ = some (Value.int .i64 op) := Blk.cell i0 0
      go_wp2_with (first | (refine wpList_load_blk (by rfl) 29 _ rfl (w.heap.size + 1) rfl i0 _ Tryd.underlying29 rfl (ins_sizeD ..) ?_) | (go_at_call 26; refine (hmay w1).mono ?_; rintro e w2 ⟨rfl, k2⟩; replace i0 := Blk.kept i0 k2; have c5 : _ = some (Value.int .i64 csr) := Blk.cell i0 5; replace s1 : StAt w2 w.heap.size S := World.rowIs.of_block s1 (k2.same _ (World.rowIs.lt s1) id)) | (refine wpList_load_is (by rfl) 27 _ rfl rfl s1 _ Tryd.underlying27 rfl st_size ?_) | (go_at_call 27; refine (hturn w2 (kb.then k2)).mono ?_; rintro e w3 ⟨rfl, k3⟩) | (go_at_call 28; refine (tflush_any ⟨rfl⟩ (ht.kept ((kb.then k2).then k3))).mono ?_; rintro e w4 ⟨rfl, h4, k4⟩))
      go_ret
      exact ⟨rfl, ⟨h4.a.congr z4, fun i hi _ => z4 i hi⟩, Kept.then ((kb.then k2).then k3) k4⟩
theorem fdo_any (hT : Tab14 w) (ht : PTl w b T) (hI : InvG T) (hS : S.Ok) (op rd rs1 rs2 imm csr : Int) :
    Calls Tryd.prog 12 #[.pointer (some ⟨b, 0, none⟩), .agg (rowOf 65 (stF S)), .agg (inA op rd rs1 rs2 imm csr)] w fun r w' => r = .returned (.int .i64 (cntT (doB S op rs1 rs2 imm csr) T : Nat)) ∧ PTl w' b (wipeT (doB S op rs1 rs2 imm csr) T) ∧ Only (fun i => i = b) w w' := by
  by_cases h3 : op = 63
  · subst h3
    exact fdo_fence hT ht hI hS rd rs1 rs2 imm csr
  by_cases h4 : op = 64
  · subst h4
    exact fdo_guest hT ht hI hS rd rs1 rs2 imm csr
  by_cases h5 : op = 65
  · subst h5
    exact fdo_host hT ht hI hS rd rs1 rs2 imm csr
  rw [doB_other S rs1 rs2 imm csr h3 h4 h5]
  simp only [all_root]
  exact fdo_other hT ht op rd rs1 rs2 imm csr (beq_eq_false_iff_ne.2 h3) (beq_eq_false_iff_ne.2 h4) (beq_eq_false_iff_ne.2 h5)
end
end Go.Proofs.YtpfblbleendpiaaDoor
