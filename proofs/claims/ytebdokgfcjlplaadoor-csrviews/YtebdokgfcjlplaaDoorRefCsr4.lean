/-
  What is written into the document's registers of control (Write of the reference): walked whole, for every argument.
-/
import Derived.Test.YtebdokgfcjlplaaDoorRefCsr3
namespace Go.Proofs.YtebdokgfcjlplaaDoor
open Go.RowKit
theorem results_cell2 {fn : Func} {a : Tmp} {t : TypeId} {u : Tmp} (h : fn.results = #[.cell a t, .tmp u]) (tmps : Array Value) (P : Program) (w : World) (ad : Addr) (v : Value) (ha : tmps.getD a undef = .pointer (some ad)) (hl : (loadVar t ad).run P w = .ok v w) :
    (results fn tmps).run P w = .ok (.tuple #[v, tmps.getD u undef]) w := by
  have ha' : tmps[a]?.getD undef = .pointer (some ad) := by rw [← Array.getD_eq_getD_getElem?]; exact ha
  simp [results, h, ha', asAddr, hl]
theorem row_lit (w : World) (c : Array Value) (T : TypeId) : (w.alloc (.cells c T)).rowIs w.heap.size T c.size (fun i => c.getD i undef) :=
  World.rowIs_alloc w c T _ fun i hi => by simp [Array.getD, hi]
/-- A state that the call itself holds, and room for its answer. -/
structure TwoS (W w : World) (b r : Nat) (S : StM) : Prop where
  s : StAt w b S
  room : ∃ F, w.rowIs r 26 65 F
  k : Kept W w
  hb : W.heap.size ≤ b
  hr : W.heap.size ≤ r
  ne : b ≠ r
theorem TwoS.kept {W w w' : World} {b r : Nat} {S : StM} (h : TwoS W w b r S) (g : Kept w w') : TwoS W w' b r S := by
  obtain ⟨F, hF⟩ := h.room
  exact ⟨h.s.kept g, ⟨F, hF.of_block (g.same r hF.lt id)⟩, h.k.then g, h.hb, h.hr, h.ne⟩
theorem TwoS.drew {W w : World} {b r : Nat} {S : StM} (h : TwoS W w b r S) : TwoS W w.drew b r S := h.kept ((Only.refl _ w).drew)
theorem TwoS.set {W w : World} {b r : Nat} {S : StM} (h : TwoS W w b r S) {i : Nat} (hi : i < 29) (x : Int) : TwoS W (w.setCell ⟨b, 35 + i, none⟩ (.int .u64 x)) b r (S.setC i x) := by
  obtain ⟨F, hF⟩ := h.room
  exact ⟨h.s.set hi x, ⟨F, hF.setOther (a := ⟨b, 35 + i, none⟩) (Ne.symm h.ne) _⟩, h.k.new ((Only.refl (fun j => j = b) w).setCell (x := ⟨b, 35 + i, none⟩) rfl _) (fun j hj => by rw [hj]; exact h.hb), h.hb, h.hr, h.ne⟩
theorem TwoS.out {W w : World} {b r : Nat} {S : StM} (h : TwoS W w b r S) : StAt (w.setRow r (rowOf 65 (stF S))) r S ∧ Kept W (w.setRow r (rowOf 65 (stF S))) := by
  obtain ⟨F, hF⟩ := h.room
  exact ⟨row_stored hF _, h.k.new ((Only.refl (fun j => j = r) w).setRow rfl _) (fun j hj => by rw [hj]; exact h.hr)⟩
theorem load_state {w : World} {b : Nat} {S : StM} (h : StAt w b S) : (loadVar 26 ⟨b, 0, none⟩).run Tryd.prog w = .ok (.agg (rowOf 65 (stF S))) w :=
  load_row h _ Tryd.underlying26 rfl st_size
theorem two_new {w w1 : World} {S : StM} {c : Array Value} (hc : c.size = 65) (g : Kept ((w.alloc (.cells (rowOf 65 (stF S)) 26)).alloc (.cells c 26)) w1) : TwoS w w1 w.heap.size (w.heap.size + 1) S := by
  have h1 : StAt ((w.alloc (.cells (rowOf 65 (stF S)) 26)).alloc (.cells c 26)) w.heap.size S := World.rowIs.alloc (st_new w S) _
  have hn : (w.alloc (.cells (rowOf 65 (stF S)) 26)).heap.size = w.heap.size + 1 := Go.Deep.nblk_alloc _ _
  have h2 := row_lit (w.alloc (.cells (rowOf 65 (stF S)) 26)) c 26
  rw [hn, hc] at h2
  exact ⟨h1.kept g, ⟨_, h2.of_block (g.same _ h2.lt id)⟩, (((Only.refl _ w).alloc _).alloc _).then g, Nat.le_refl _, by omega, by omega⟩
/-- An empty state's cells. -/
def zF (i : Nat) : Value := stF ⟨fun _ => 0, 0, 0, false, fun _ => 0, 0⟩ i
theorem st_zero : (Tryd.prog.info? 26).map (fun i => i.zero.map (·.cells)) = some (some (rowOf 65 zF)) := by kernel_rfl
section
variable {S : StM}
set_option maxRecDepth 10000 in
set_option maxHeartbeats 1000000 in
theorem rwrite_no8 (n v : Int) (h : idxI n = -1) (n1 : ¬ n = 256) (n2 : ¬ n = 260) (n3 : ¬ n = 516) (n4 : ¬ n = 3074) (w : World) :
    Calls Tryd.prog 13 #[.agg (rowOf 65 (stF S)), .int .i64 n, .int .u64 v] w fun e w' => e = .returned (.tuple #[.agg (rowOf 65 (stF S)), .bool false]) ∧ Kept w w' := by
  have m1 : (n == 256) = false := beq_eq_false_iff_ne.2 n1
  have m2 : (n == 260) = false := beq_eq_false_iff_ne.2 n2
  have m3 : (n == 516) = false := beq_eq_false_iff_ne.2 n3
  have m4 : (n == 3074) = false := beq_eq_false_iff_ne.2 n4
  clear n1 n2 n3 n4
  go_enter Tryd.func13, Tryd.ntmps13
  go_wp2_with (refine wpList_alloc_is rfl 26 rfl (rowOf 65 zF) st_zero ?_)
  refine (ridx_any n _).mono ?_
  rintro e w1 ⟨rfl, k1⟩
  have hT := two_new (rowOf_size 65 zF) k1
  obtain ⟨F, hF⟩ := hT.room
  rw [h]
  go_wp2_with first | refine wpList_load_row rfl 26 _ rfl rfl hT.s _ Tryd.underlying26 rfl st_size ?_ | refine wpList_store_is rfl 26 _ _ rfl rfl rfl hF st_size (fun i _ => stF_one S i) ?_
  refine bodyPost_ret (results_cell2 rfl _ _ _ _ _ rfl (load_state hT.out.1)) rfl ?_
  exact ⟨rfl, hT.out.2⟩
set_option maxRecDepth 10000 in
set_option maxHeartbeats 1000000 in
theorem rwrite_3074 (v : Int) (w : World) :
    Calls Tryd.prog 13 #[.agg (rowOf 65 (stF S)), .int .i64 3074, .int .u64 v] w fun e w' => e = .returned (.tuple #[.agg (rowOf 65 (stF S)), .bool true]) ∧ Kept w w' := by
  go_enter Tryd.func13, Tryd.ntmps13
  go_wp2_with (refine wpList_alloc_is rfl 26 rfl (rowOf 65 zF) st_zero ?_)
  refine (ridx_any _ _).mono ?_
  rintro e w1 ⟨rfl, k1⟩
  have hT := two_new (rowOf_size 65 zF) k1
  obtain ⟨F, hF⟩ := hT.room
  rw [idx_3074]
  go_wp2_with first | refine wpList_load_row rfl 26 _ rfl rfl hT.s _ Tryd.underlying26 rfl st_size ?_ | refine wpList_store_is rfl 26 _ _ rfl rfl rfl hF st_size (fun i _ => stF_one _ i) ?_
  refine bodyPost_ret (results_cell2 rfl _ _ _ _ _ rfl (load_state hT.out.1)) rfl ?_
  exact ⟨rfl, hT.out.2⟩
set_option maxRecDepth 10000 in
set_option maxHeartbeats 1000000 in
theorem rwrite_256 (v : Int) (w : World) :
    Calls Tryd.prog 13 #[.agg (rowOf 65 (stF S)), .int .i64 256, .int .u64 v] w fun e w' => e = .returned (.tuple #[.agg (rowOf 65 (stF (S.setC 0 (putI (S.C 0) v 786722)))), .bool true]) ∧ Kept w w' := by
  go_enter Tryd.func13, Tryd.ntmps13
  go_wp2_with (refine wpList_alloc_is rfl 26 rfl (rowOf 65 zF) st_zero ?_)
  refine (ridx_any _ _).mono ?_
  rintro e w1 ⟨rfl, k1⟩
  have hT := two_new (rowOf_size 65 zF) k1
  have hc := hT.s.c (i := 0) (by omega)
  have fz := hT.s.frozen (35 + 0)
  rw [idx_256]
  go_wp2_with fail
  refine (rput_any8 _ _ _ _).mono ?_
  rintro e w2 ⟨rfl, rfl⟩
  have hT2 := hT.set (i := 0) (by omega) (putI (S.C 0) v 786722)
  obtain ⟨F, hF⟩ := hT2.room
  go_wp2_with first | refine wpList_load_row rfl 26 _ rfl rfl hT2.s _ Tryd.underlying26 rfl st_size ?_ | refine wpList_store_is rfl 26 _ _ rfl rfl rfl hF st_size (fun i _ => stF_one _ i) ?_
  refine bodyPost_ret (results_cell2 rfl _ _ _ _ _ rfl (load_state hT2.out.1)) rfl ?_
  exact ⟨rfl, hT2.out.2⟩
set_option maxRecDepth 10000 in
set_option maxHeartbeats 1000000 in
theorem rwrite_260 (v : Int) (w : World) :
    Calls Tryd.prog 13 #[.agg (rowOf 65 (stF S)), .int .i64 260, .int .u64 v] w fun e w' => e = .returned (.tuple #[.agg (rowOf 65 (stF (S.setC 3 (putI (S.C 3) v 544)))), .bool true]) ∧ Kept w w' := by
  go_enter Tryd.func13, Tryd.ntmps13
  go_wp2_with (refine wpList_alloc_is rfl 26 rfl (rowOf 65 zF) st_zero ?_)
  refine (ridx_any _ _).mono ?_
  rintro e w1 ⟨rfl, k1⟩
  have hT := two_new (rowOf_size 65 zF) k1
  have hc := hT.s.c (i := 3) (by omega)
  have fz := hT.s.frozen (35 + 3)
  rw [idx_260]
  go_wp2_with fail
  refine (rput_any8 _ _ _ _).mono ?_
  rintro e w2 ⟨rfl, rfl⟩
  have hT2 := hT.set (i := 3) (by omega) (putI (S.C 3) v 544)
  obtain ⟨F, hF⟩ := hT2.room
  go_wp2_with first | refine wpList_load_row rfl 26 _ rfl rfl hT2.s _ Tryd.underlying26 rfl st_size ?_ | refine wpList_store_is rfl 26 _ _ rfl rfl rfl hF st_size (fun i _ => stF_one _ i) ?_
  refine bodyPost_ret (results_cell2 rfl _ _ _ _ _ rfl (load_state hT2.out.1)) rfl ?_
  exact ⟨rfl, hT2.out.2⟩
set_option maxRecDepth 10000 in
set_option maxHeartbeats 1000000 in
theorem rwrite_516 (v : Int) (hv : U v) (w : World) :
    Calls Tryd.prog 13 #[.agg (rowOf 65 (stF S)), .int .i64 516, .int .u64 v] w fun e w' => e = .returned (.tuple #[.agg (rowOf 65 (stF (S.setC 3 (putI (S.C 3) (v * 2 % 18446744073709551616) 1088)))), .bool true]) ∧ Kept w w' := by
  have hsh : IntKind.u64.wrap (v * 2) = v * 2 % 18446744073709551616 := IntKind.wrap_u64 _
  have h0 := hv.1
  go_enter Tryd.func13, Tryd.ntmps13
  go_wp2_with (refine wpList_alloc_is rfl 26 rfl (rowOf 65 zF) st_zero ?_)
  refine (ridx_any _ _).mono ?_
  rintro e w1 ⟨rfl, k1⟩
  have hT := two_new (rowOf_size 65 zF) k1
  have hc := hT.s.c (i := 3) (by omega)
  have fz := hT.s.frozen (35 + 3)
  rw [idx_516]
  go_wp2_with fail
  refine (rput_any8 _ _ _ _).mono ?_
  rintro e w2 ⟨rfl, rfl⟩
  have hT2 := hT.set (i := 3) (by omega) (putI (S.C 3) (v * 2 % 18446744073709551616) 1088)
  obtain ⟨F, hF⟩ := hT2.room
  go_wp2_with first | refine wpList_load_row rfl 26 _ rfl rfl hT2.s _ Tryd.underlying26 rfl st_size ?_ | refine wpList_store_is rfl 26 _ _ rfl rfl rfl hF st_size (fun i _ => stF_one _ i) ?_
  refine bodyPost_ret (results_cell2 rfl _ _ _ _ _ rfl (load_state hT2.out.1)) rfl ?_
  exact ⟨rfl, hT2.out.2⟩
set_option maxRecDepth 10000 in
set_option maxHeartbeats 1000000 in
theorem rwrite_in8 (n v : Int) (i : Nat) (hi : i < 29) (h0 : i ≠ 0) (he : idxI n = i) (w : World) :
    Calls Tryd.prog 13 #[.agg (rowOf 65 (stF S)), .int .i64 n, .int .u64 v] w fun e w' => e = .returned (.tuple #[.agg (rowOf 65 (stF (S.setC i (putI (S.C i) v (maskI (i : Int)))))), .bool true]) ∧ Kept w w' := by
  have l0 : (0 : Int) ≤ (i : Int) := by omega
  have l1 : (i : Int) < 29 := by omega
  have lz : ((i : Int) == 0) = false := beq_eq_false_iff_ne.2 (by omega)
  go_enter Tryd.func13, Tryd.ntmps13
  go_wp2_with (refine wpList_alloc_is rfl 26 rfl (rowOf 65 zF) st_zero ?_)
  refine (ridx_any _ _).mono ?_
  rintro e w1 ⟨rfl, k1⟩
  have hT := two_new (rowOf_size 65 zF) k1
  have hTd := hT.drew
  have hc := hT.s.c hi
  have fz := hT.s.frozen (35 + i)
  rw [he]
  clear h0
  go_wp2
  go_region_with (first | (go_at_call 19; refine (rmask_any _ _).mono ?_; rintro e w2 ⟨rfl, k2⟩; have hT2 := hTd.kept k2; have hc2 := hT2.s.c hi; have fz2 := hT2.s.frozen (35 + i)) | (go_at_call 26; refine (rput_any8 _ _ _ _).mono ?_; rintro e w' ⟨rfl, rfl⟩))
  all_goals
    have hT3 := hT2.set hi (putI (S.C i) v (maskI (i : Int)))
    obtain ⟨F, hF⟩ := hT3.room
    go_wp2_with first | refine wpList_load_row rfl 26 _ rfl rfl hT3.s _ Tryd.underlying26 rfl st_size ?_ | refine wpList_store_is rfl 26 _ _ rfl rfl rfl hF st_size (fun i _ => stF_one _ i) ?_
    refine bodyPost_ret (results_cell2 rfl _ _ _ _ _ rfl (load_state hT3.out.1)) rfl ?_
    exact ⟨rfl, hT3.out.2⟩
set_option maxRecDepth 10000 in
set_option maxHeartbeats 1000000 in
theorem rwrite_0 (n v : Int) (he : idxI n = 0) (w : World) :
    Calls Tryd.prog 13 #[.agg (rowOf 65 (stF S)), .int .i64 n, .int .u64 v] w fun e w' => e = .returned (.tuple #[.agg (rowOf 65 (stF (S.setC 0 (mppI (putI (S.C 0) v (maskI 0)))))), .bool true]) ∧ Kept w w' := by
  go_enter Tryd.func13, Tryd.ntmps13
  go_wp2_with (refine wpList_alloc_is rfl 26 rfl (rowOf 65 zF) st_zero ?_)
  refine (ridx_any _ _).mono ?_
  rintro e w1 ⟨rfl, k1⟩
  have hT := two_new (rowOf_size 65 zF) k1
  have hTd := hT.drew
  have hc := hT.s.c (i := 0) (by omega)
  have fz := hT.s.frozen (35 + 0)
  rw [he]
  go_wp2
  go_region_with (first | (go_at_call 19; refine (rmask_any _ _).mono ?_; rintro e w2 ⟨rfl, k2⟩; have hT2 := hTd.kept k2; have hc2 := hT2.s.c (i := 0) (by omega); have fz2 := hT2.s.frozen (35 + 0)) | (go_at_call 26; refine (rput_any8 _ _ _ _).mono ?_; rintro e w' ⟨rfl, rfl⟩))
  all_goals
    have hT3 := hT2.set (i := 0) (by omega) (putI (S.C 0) v (maskI 0))
    have hc3 := hT3.s.c (i := 0) (by omega)
    rw [StM.setC_at] at hc3
    have fz3 := hT3.s.frozen (35 + 0)
    go_wp2_with fail
    refine (rmpp_any _ (U_put _ _ _) _).mono ?_
    rintro e w4 ⟨rfl, rfl⟩
    have hT4 := hT3.set (i := 0) (by omega) (mppI (putI (S.C 0) v (maskI 0)))
    rw [StM.setC_set] at hT4
    obtain ⟨F, hF⟩ := hT4.room
    go_wp2_with first | refine wpList_load_row rfl 26 _ rfl rfl hT4.s _ Tryd.underlying26 rfl st_size ?_ | refine wpList_store_is rfl 26 _ _ rfl rfl rfl hF st_size (fun i _ => stF_one _ i) ?_
    refine bodyPost_ret (results_cell2 rfl _ _ _ _ _ rfl (load_state hT4.out.1)) rfl ?_
    exact ⟨rfl, hT4.out.2⟩
theorem rwrite_any8 (n v : Int) (hv : U v) (w : World) :
    Calls Tryd.prog 13 #[.agg (rowOf 65 (stF S)), .int .i64 n, .int .u64 v] w fun e w' => e = .returned (.tuple #[.agg (rowOf 65 (stF (wrS S n v))), .bool (okC n)]) ∧ Kept w w' := by
  by_cases h : 0 ≤ idxI n
  · obtain ⟨i, hi, he, _⟩ := idx_yes h
    have e2 : okC n = true := decide_eq_true (.inl h)
    have e1 : wrS S n v = S.setC i (wrI i (S.C i) v) := by unfold wrS; rw [if_pos h, he, Int.toNat_natCast]
    rw [e1, e2]
    unfold wrI
    by_cases h0 : i = 0
    · subst h0
      rw [if_pos rfl]
      exact rwrite_0 n v he w
    · rw [if_neg h0]
      exact rwrite_in8 n v i hi h0 he w
  · have he := (idx_no h).1
    by_cases n1 : n = 256
    · subst n1; exact rwrite_256 v w
    · by_cases n2 : n = 260
      · subst n2; exact rwrite_260 v w
      · by_cases n3 : n = 516
        · subst n3; exact rwrite_516 v hv w
        · have e1 : wrS S n v = S := by unfold wrS; rw [if_neg h, if_neg n1, if_neg n2, if_neg n3]
          rw [e1]
          by_cases n4 : n = 3074
          · subst n4; exact rwrite_3074 v w
          · have e2 : okC n = false := decide_eq_false (by rintro (x | x | x | x | x); exact h x; exact n1 x; exact n2 x; exact n3 x; exact n4 x)
            rw [e2]
            exact rwrite_no8 n v he n1 n2 n3 n4 w
end
end Go.Proofs.YtebdokgfcjlplaaDoor
