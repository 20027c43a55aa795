/-
  What statement TwoOff asks: walked for every argument.
-/
import Derived.Test.YtpplclenokfpeaaDoorTwoFace
import Derived.Deep.Cut
import Derived.Deep.RegionHeld3
namespace Go.Proofs.YtpplclenokfpeaaDoor
open Go.RowKit
theorem load_state12 {w : World} {b : Nat} {S : StM} (h : StAt w b S) : (loadVar 27 ⟨b, 0, none⟩).run Tryd.prog w = .ok (.agg (rowOf 65 (stF S))) w :=
  load_row h _ Tryd.underlying27 rfl st_size
def offE (at_ : Int) : EntM := ⟨true, false, if at_ < 65536 then at_ / 256 else 0, 0, 0, if at_ < 65536 then at_ / 256 else 0, 255, 255, if at_ < 65536 then at_ / 256 else 0⟩
theorem tr_off (B : Nat → Int) (S : StM) (at_ k : Int) : trS B S at_ k 3 false false = ⟨at_, offE at_, fltNone, true⟩ := by
  unfold trS
  have h : askS S 3 false = ⟨false, false, false, false, 0, 0, 0, 0⟩ := by
    unfold askS
    rw [if_pos rfl]
  rw [h, if_pos ⟨rfl, rfl⟩]
  rfl
theorem ask_off (S : StM) : askS S 3 false = ⟨false, false, false, false, 0, 0, 0, 0⟩ := by
  unfold askS
  rw [if_pos rfl]
set_option maxRecDepth 100000 in
set_option maxHeartbeats 8000000 in
theorem toff_any {S : StM} (hS : S.Ok) (at_ k : Int) (ha : U at_) (k0 : 0 ≤ k) (_k1 : k ≤ 255) {W : World} (hT : Tab12 W) :
    Calls Tryd.prog 7 #[.agg (rowOf 65 (stF S)), .int .u64 at_, .int .u8 k] W fun e w' => e = .returned (.bool true) ∧ Kept W w' := by
  have hk3 : k % 3 = 0 ∨ k % 3 = 1 ∨ k % 3 = 2 := by omega
  have ek : k.tmod 3 = k % 3 := Int.tmod_eq_emod_of_nonneg k0
  have ew : IntKind.i64.wrap (k % 3) = k % 3 := by rw [IntKind.wrap_i64]; omega
  have h0 := st_new W S
  have kk := (Only.refl (fun _ => False) W).alloc (.cells (rowOf 65 (stF S)) 27)
  go_enter Tryd.func7, Tryd.ntmps7
  go_wp2_with fail
  refine (known12_any (hT.kept kk) (Only.refl _ _)).mono ?_
  rintro e w1 ⟨rfl, kw⟩
  have k1 := kk.then kw
  have h1 := st_kept h0 kw
  clear h0 kk kw
  go_upto_region 3 with fail
  go_cut [7, 8, 9, 10] from 11 (fun t7 t8 t9 t10 wx => ∃ eb fb, t7 = .int .u64 at_ ∧ t8 = .pointer (some ⟨eb, 0, none⟩) ∧ t9 = .pointer (some ⟨fb, 0, none⟩) ∧ t10 = .bool true ∧ Kept w1 wx ∧ Blk wx eb 36 (entA (offE at_)).toArray ∧ Blk wx fb 38 (fltA fltNone).toArray)
  case first =>
    have h1d := st_kept h1 ((Only.refl _ w1).drew)
    refine wp_region_held_drew (S := fun w2 => Kept w1.drew w2) (by kernel_rfl) (Only.refl _ _) (fun hHeld => ?_)
    refine wpAnyH_take (i := 1) (v := .agg (rowOf 65 (stF S))) rfl (by kernel_rfl) (by kernel_rfl) (by kernel_rfl) (fun _ _ _ h => h) (Or.inl ⟨by rfl, ?_⟩) hHeld ?_
    · intro w2 hSw
      exact exec_load rfl rfl (load_state12 (st_kept h1d hSw))
    try simp only [Act.put, List.getElem_toArray, List.setIfInBounds_toArray]
    refine wpAnyH_take (i := 2) (v := ?_) rfl (by kernel_rfl) (by kernel_rfl) (by kernel_rfl) (fun _ _ _ h => h) (Or.inl ⟨by rfl, ?_⟩) hHeld ?_
    rotate_left
    · intro w2 hSw
      go_simp
      all_goals rfl
    try simp only [Act.put, List.getElem_toArray, List.getElem_cons_zero, List.getElem_cons_succ, List.setIfInBounds_toArray, List.set_cons_zero, List.set_cons_succ]
    refine wpAnyH_take (i := 3) (v := ?_) rfl (by kernel_rfl) (by kernel_rfl) (by kernel_rfl) (fun _ _ _ h => h) (Or.inl ⟨by rfl, ?_⟩) hHeld ?_
    rotate_left
    · intro w2 hSw
      go_simp
      all_goals rfl
    try simp only [Act.put, List.getElem_toArray, List.getElem_cons_zero, List.getElem_cons_succ, List.setIfInBounds_toArray, List.set_cons_zero, List.set_cons_succ]
    refine wpAnyH_take (i := 4) (v := ?_) rfl (by kernel_rfl) (by kernel_rfl) (by kernel_rfl) (fun _ _ _ h => h) (Or.inl ⟨by rfl, ?_⟩) hHeld ?_
    rotate_left
    · intro w2 hSw
      go_simp
      all_goals rfl
    try simp only [Act.put, List.getElem_toArray, List.getElem_cons_zero, List.getElem_cons_succ, List.setIfInBounds_toArray, List.set_cons_zero, List.set_cons_succ]
    refine wpAnyH_take (i := 5) (v := ?_) rfl (by kernel_rfl) (by kernel_rfl) (by kernel_rfl) (fun _ _ _ h => h) (Or.inl ⟨by rfl, ?_⟩) hHeld ?_
    rotate_left
    · intro w2 hSw
      go_simp
      all_goals rfl
    try simp only [Act.put, List.getElem_toArray, List.getElem_cons_zero, List.getElem_cons_succ, List.setIfInBounds_toArray, List.set_cons_zero, List.set_cons_succ]
    refine wpAnyH_ready (rs := [0, 12, 13]) (by kernel_rfl) (by simp) ?_
    refine AllReadyH.cons rfl (fun K hK => ?_) ?_
    · go_simp
      refine (new_from (Only.refl _ _)).mono ?_
      rintro e wn ⟨p, q, rfl, sN⟩
      have kN := sN.k
      go_simp
      refine hK.out _ _ (hHeld.then kN) (fun hHeld => ?_)
      clear hK K
      try simp only [Act.put, List.setIfInBounds_toArray, List.set_cons_zero, List.set_cons_succ]
      refine wpAnyH_ready (rs := [6, 12, 13]) (by kernel_rfl) (by simp) ?_
      refine AllReadyH.cons rfl (fun K hK => ?_) ?_
      · go_simp
        refine (ttr_any (hT.kept (k1.then (((Only.refl _ w1).drew).then (hHeld)))) sN.m hS _ _ _ _ hk3 ha).mono ?_
        rintro e wn ⟨rfl, kT⟩
        rw [tr_off]
        go_simp
        refine hK.out _ _ (hHeld.then kT) (fun hHeld => ?_)
        clear hK K
        try simp only [Act.put, List.setIfInBounds_toArray, List.set_cons_zero, List.set_cons_succ]
        clear kT
        refine wpAnyH_take (i := 7) (v := ?_) rfl (by kernel_rfl) (by kernel_rfl) (by kernel_rfl) (fun _ _ _ h => h) (Or.inl ⟨by rfl, ?_⟩) hHeld ?_
        rotate_left
        · intro w2 hSw
          go_simp
          all_goals rfl
        try simp only [Act.put, List.getElem_toArray, List.getElem_cons_zero, List.getElem_cons_succ, List.setIfInBounds_toArray, List.set_cons_zero, List.set_cons_succ]
        refine wpAnyH_take (i := 8) (v := ?_) rfl (by kernel_rfl) (by kernel_rfl) (by kernel_rfl) (fun _ _ _ h => h) (Or.inl ⟨by rfl, ?_⟩) hHeld ?_
        rotate_left
        · intro w2 hSw
          go_simp
          all_goals rfl
        try simp only [Act.put, List.getElem_toArray, List.getElem_cons_zero, List.getElem_cons_succ, List.setIfInBounds_toArray, List.set_cons_zero, List.set_cons_succ]
        refine wpAnyH_take (i := 9) (v := ?_) rfl (by kernel_rfl) (by kernel_rfl) (by kernel_rfl) (fun _ _ _ h => h) (Or.inl ⟨by rfl, ?_⟩) hHeld ?_
        rotate_left
        · intro w2 hSw
          go_simp
          all_goals rfl
        try simp only [Act.put, List.getElem_toArray, List.getElem_cons_zero, List.getElem_cons_succ, List.setIfInBounds_toArray, List.set_cons_zero, List.set_cons_succ]
        refine wpAnyH_take (i := 10) (v := ?_) rfl (by kernel_rfl) (by kernel_rfl) (by kernel_rfl) (fun _ _ _ h => h) (Or.inl ⟨by rfl, ?_⟩) hHeld ?_
        rotate_left
        · intro w2 hSw
          go_simp
          all_goals rfl
        try simp only [Act.put, List.getElem_toArray, List.getElem_cons_zero, List.getElem_cons_succ, List.setIfInBounds_toArray, List.set_cons_zero, List.set_cons_succ]
        refine wpAnyH_take (i := 11) (v := ?_) rfl (by kernel_rfl) (by kernel_rfl) (by kernel_rfl) (fun _ _ _ h => h) (Or.inl ⟨by rfl, ?_⟩) hHeld ?_
        rotate_left
        · intro w2 hSw
          go_simp
          all_goals rfl
        try simp only [Act.put, List.getElem_toArray, List.getElem_cons_zero, List.getElem_cons_succ, List.setIfInBounds_toArray, List.set_cons_zero, List.set_cons_succ]
        refine wpAnyH_ready (rs := [12, 13]) (by kernel_rfl) (by simp) ?_
        refine AllReadyH.cons rfl (fun K hK => ?_) ?_
        · rw [if_pos (by rfl)]
          refine wp_alloc_go _ rfl _ ent_zero' ?_
          intro eb wn neb kn meb fe
          have leb := hHeld.size
          rw [neb] at leb
          refine hK.out _ _ (hHeld.then kn) (fun hHeld => ?_)
          clear hK K
          try simp only [Act.put, List.setIfInBounds_toArray]
          clear kn
          refine wpAnyH_ready (rs := [13]) (by kernel_rfl) (by simp) ?_
          refine AllReadyH.cons rfl (fun K hK => ?_) AllReadyH.nil
          have qfe := Blk.lt fe
          rw [if_pos (by rfl)]
          refine wp_alloc_go _ rfl _ flt_zero' ?_
          intro fb wn nfb kn mfb ff
          have lfb := hHeld.size
          rw [nfb] at lfb
          refine hK.out _ _ (hHeld.then kn) (fun hHeld => ?_)
          clear hK K
          try simp only [Act.put]
          replace fe := fe.kept kn
          clear kn
          refine wpAnyH_take (i := 14) (v := ?_) rfl (by kernel_rfl) (by kernel_rfl) (by kernel_rfl) (fun _ _ _ h => h) (Or.inl ⟨by rfl, ?_⟩) hHeld ?_
          rotate_left
          · intro w2 hSw
            go_simp
            all_goals rfl
          try simp only [Act.put, List.getElem_toArray, List.getElem_cons_zero, List.getElem_cons_succ, List.setIfInBounds_toArray, List.set_cons_zero, List.set_cons_succ]
          refine wpAnyH_ready (rs := [15]) (by kernel_rfl) (by simp) ?_
          refine AllReadyH.cons rfl (fun K hK => ?_) AllReadyH.nil
          rw [if_pos (by rfl)]
          refine wp_store_go _ _ _ rfl eb (entA (offE at_)).toArray rfl rfl fe (ent_size' _) ((ent_len _).trans (ent_len _).symm) (ent_ones' _) ?_
          intro wn on fen
          have hH := hHeld.new on fun i hi => by omega
          replace ff := ff.past on (by omega)
          refine hK.out _ _ hH (fun hHeld => ?_)
          clear hK K hH on fe
          try simp only [Act.put, List.setIfInBounds_toArray]
          refine wpAnyH_ready (rs := [16]) (by kernel_rfl) (by simp) ?_
          refine AllReadyH.cons rfl (fun K hK => ?_) AllReadyH.nil
          rw [if_pos (by rfl)]
          refine wp_store_go _ _ _ rfl fb (fltA fltNone).toArray rfl rfl ff (flt_size' _) ((flt_len _).trans (flt_len _).symm) (flt_ones' _) ?_
          intro wn on ffn
          have hH := hHeld.new on fun i hi => by omega
          replace fen := fen.past on (by omega)
          refine hK.out _ _ hH (fun hHeld => ?_)
          clear hK K hH on ff
          try simp only [Act.put]
          refine wpAnyH_take (i := 17) (v := ?_) rfl (by kernel_rfl) (by kernel_rfl) (by kernel_rfl) (fun _ _ _ h => h) (Or.inl ⟨by rfl, ?_⟩) hHeld ?_
          rotate_left
          · intro w2 hSw
            go_simp
            all_goals rfl
          try simp only [Act.put, List.getElem_toArray, List.getElem_cons_zero, List.getElem_cons_succ, List.setIfInBounds_toArray, List.set_cons_zero, List.set_cons_succ]
          refine wpAnyH_done (by kernel_rfl) ?_ _
          go_wp2_with fail
          go_meet
          exact ⟨eb, fb, rfl, rfl, rfl, rfl, ((Only.refl _ w1).drew).then hHeld, fen, ffn⟩
        refine AllReadyH.cons rfl (fun K hK => ?_) AllReadyH.nil
        rw [if_pos (by rfl)]
        refine wp_alloc_go _ rfl _ flt_zero' ?_
        intro fb wn nfb kn mfb ff
        have lfb := hHeld.size
        rw [nfb] at lfb
        refine hK.out _ _ (hHeld.then kn) (fun hHeld => ?_)
        clear hK K
        try simp only [Act.put, List.setIfInBounds_toArray]
        clear kn
        refine wpAnyH_ready (rs := [12]) (by kernel_rfl) (by simp) ?_
        refine AllReadyH.cons rfl (fun K hK => ?_) AllReadyH.nil
        have qff := Blk.lt ff
        rw [if_pos (by rfl)]
        refine wp_alloc_go _ rfl _ ent_zero' ?_
        intro eb wn neb kn meb fe
        have leb := hHeld.size
        rw [neb] at leb
        refine hK.out _ _ (hHeld.then kn) (fun hHeld => ?_)
        clear hK K
        try simp only [Act.put]
        replace ff := ff.kept kn
        clear kn
        refine wpAnyH_take (i := 14) (v := ?_) rfl (by kernel_rfl) (by kernel_rfl) (by kernel_rfl) (fun _ _ _ h => h) (Or.inl ⟨by rfl, ?_⟩) hHeld ?_
        rotate_left
        · intro w2 hSw
          go_simp
          all_goals rfl
        try simp only [Act.put, List.getElem_toArray, List.getElem_cons_zero, List.getElem_cons_succ, List.setIfInBounds_toArray, List.set_cons_zero, List.set_cons_succ]
        refine wpAnyH_ready (rs := [15]) (by kernel_rfl) (by simp) ?_
        refine AllReadyH.cons rfl (fun K hK => ?_) AllReadyH.nil
        rw [if_pos (by rfl)]
        refine wp_store_go _ _ _ rfl eb (entA (offE at_)).toArray rfl rfl fe (ent_size' _) ((ent_len _).trans (ent_len _).symm) (ent_ones' _) ?_
        intro wn on fen
        have hH := hHeld.new on fun i hi => by omega
        replace ff := ff.past on (by omega)
        refine hK.out _ _ hH (fun hHeld => ?_)
        clear hK K hH on fe
        try simp only [Act.put, List.setIfInBounds_toArray]
        refine wpAnyH_ready (rs := [16]) (by kernel_rfl) (by simp) ?_
        refine AllReadyH.cons rfl (fun K hK => ?_) AllReadyH.nil
        rw [if_pos (by rfl)]
        refine wp_store_go _ _ _ rfl fb (fltA fltNone).toArray rfl rfl ff (flt_size' _) ((flt_len _).trans (flt_len _).symm) (flt_ones' _) ?_
        intro wn on ffn
        have hH := hHeld.new on fun i hi => by omega
        replace fen := fen.past on (by omega)
        refine hK.out _ _ hH (fun hHeld => ?_)
        clear hK K hH on ff
        try simp only [Act.put]
        refine wpAnyH_take (i := 17) (v := ?_) rfl (by kernel_rfl) (by kernel_rfl) (by kernel_rfl) (fun _ _ _ h => h) (Or.inl ⟨by rfl, ?_⟩) hHeld ?_
        rotate_left
        · intro w2 hSw
          go_simp
          all_goals rfl
        try simp only [Act.put, List.getElem_toArray, List.getElem_cons_zero, List.getElem_cons_succ, List.setIfInBounds_toArray, List.set_cons_zero, List.set_cons_succ]
        refine wpAnyH_done (by kernel_rfl) ?_ _
        go_wp2_with fail
        go_meet
        exact ⟨eb, fb, rfl, rfl, rfl, rfl, ((Only.refl _ w1).drew).then hHeld, fen, ffn⟩
      refine AllReadyH.cons rfl (fun K hK => ?_) ?_
      · rw [if_pos (by rfl)]
        refine wp_alloc_go _ rfl _ ent_zero' ?_
        intro eb wn neb kn meb fe
        have leb := hHeld.size
        rw [neb] at leb
        refine hK.out _ _ (hHeld.then kn) (fun hHeld => ?_)
        clear hK K
        try simp only [Act.put, List.setIfInBounds_toArray]
        replace sN := sN.kept kn
        clear kn
        refine wpAnyH_ready (rs := [6, 13]) (by kernel_rfl) (by simp) ?_
        refine AllReadyH.cons rfl (fun K hK => ?_) ?_
        · go_simp
          refine (ttr_any (hT.kept (k1.then (((Only.refl _ w1).drew).then (hHeld)))) sN.m hS _ _ _ _ hk3 ha).mono ?_
          rintro e wn ⟨rfl, kT⟩
          rw [tr_off]
          go_simp
          refine hK.out _ _ (hHeld.then kT) (fun hHeld => ?_)
          clear hK K
          try simp only [Act.put, List.setIfInBounds_toArray, List.set_cons_zero, List.set_cons_succ]
          replace fe := fe.kept kT
          clear kT
          refine wpAnyH_take (i := 7) (v := ?_) rfl (by kernel_rfl) (by kernel_rfl) (by kernel_rfl) (fun _ _ _ h => h) (Or.inl ⟨by rfl, ?_⟩) hHeld ?_
          rotate_left
          · intro w2 hSw
            go_simp
            all_goals rfl
          try simp only [Act.put, List.getElem_toArray, List.getElem_cons_zero, List.getElem_cons_succ, List.setIfInBounds_toArray, List.set_cons_zero, List.set_cons_succ]
          refine wpAnyH_take (i := 8) (v := ?_) rfl (by kernel_rfl) (by kernel_rfl) (by kernel_rfl) (fun _ _ _ h => h) (Or.inl ⟨by rfl, ?_⟩) hHeld ?_
          rotate_left
          · intro w2 hSw
            go_simp
            all_goals rfl
          try simp only [Act.put, List.getElem_toArray, List.getElem_cons_zero, List.getElem_cons_succ, List.setIfInBounds_toArray, List.set_cons_zero, List.set_cons_succ]
          refine wpAnyH_take (i := 9) (v := ?_) rfl (by kernel_rfl) (by kernel_rfl) (by kernel_rfl) (fun _ _ _ h => h) (Or.inl ⟨by rfl, ?_⟩) hHeld ?_
          rotate_left
          · intro w2 hSw
            go_simp
            all_goals rfl
          try simp only [Act.put, List.getElem_toArray, List.getElem_cons_zero, List.getElem_cons_succ, List.setIfInBounds_toArray, List.set_cons_zero, List.set_cons_succ]
          refine wpAnyH_take (i := 10) (v := ?_) rfl (by kernel_rfl) (by kernel_rfl) (by kernel_rfl) (fun _ _ _ h => h) (Or.inl ⟨by rfl, ?_⟩) hHeld ?_
          rotate_left
          · intro w2 hSw
            go_simp
            all_goals rfl
          try simp only [Act.put, List.getElem_toArray, List.getElem_cons_zero, List.getElem_cons_succ, List.setIfInBounds_toArray, List.set_cons_zero, List.set_cons_succ]
          refine wpAnyH_take (i := 11) (v := ?_) rfl (by kernel_rfl) (by kernel_rfl) (by kernel_rfl) (fun _ _ _ h => h) (Or.inl ⟨by rfl, ?_⟩) hHeld ?_
          rotate_left
          · intro w2 hSw
            go_simp
            all_goals rfl
          try simp only [Act.put, List.getElem_toArray, List.getElem_cons_zero, List.getElem_cons_succ, List.setIfInBounds_toArray, List.set_cons_zero, List.set_cons_succ]
          refine wpAnyH_ready (rs := [13]) (by kernel_rfl) (by simp) ?_
          refine AllReadyH.cons rfl (fun K hK => ?_) AllReadyH.nil
          have qfe := Blk.lt fe
          rw [if_pos (by rfl)]
          refine wp_alloc_go _ rfl _ flt_zero' ?_
          intro fb wn nfb kn mfb ff
          have lfb := hHeld.size
          rw [nfb] at lfb
          refine hK.out _ _ (hHeld.then kn) (fun hHeld => ?_)
          clear hK K
          try simp only [Act.put, List.setIfInBounds_toArray]
          replace fe := fe.kept kn
          clear kn
          refine wpAnyH_take (i := 14) (v := ?_) rfl (by kernel_rfl) (by kernel_rfl) (by kernel_rfl) (fun _ _ _ h => h) (Or.inl ⟨by rfl, ?_⟩) hHeld ?_
          rotate_left
          · intro w2 hSw
            go_simp
            all_goals rfl
          try simp only [Act.put, List.getElem_toArray, List.getElem_cons_zero, List.getElem_cons_succ, List.setIfInBounds_toArray, List.set_cons_zero, List.set_cons_succ]
          refine wpAnyH_ready (rs := [15]) (by kernel_rfl) (by simp) ?_
          refine AllReadyH.cons rfl (fun K hK => ?_) AllReadyH.nil
          rw [if_pos (by rfl)]
          refine wp_store_go _ _ _ rfl eb (entA (offE at_)).toArray rfl rfl fe (ent_size' _) ((ent_len _).trans (ent_len _).symm) (ent_ones' _) ?_
          intro wn on fen
          have hH := hHeld.new on fun i hi => by omega
          replace ff := ff.past on (by omega)
          refine hK.out _ _ hH (fun hHeld => ?_)
          clear hK K hH on fe
          try simp only [Act.put, List.setIfInBounds_toArray]
          refine wpAnyH_ready (rs := [16]) (by kernel_rfl) (by simp) ?_
          refine AllReadyH.cons rfl (fun K hK => ?_) AllReadyH.nil
          rw [if_pos (by rfl)]
          refine wp_store_go _ _ _ rfl fb (fltA fltNone).toArray rfl rfl ff (flt_size' _) ((flt_len _).trans (flt_len _).symm) (flt_ones' _) ?_
          intro wn on ffn
          have hH := hHeld.new on fun i hi => by omega
          replace fen := fen.past on (by omega)
          refine hK.out _ _ hH (fun hHeld => ?_)
          clear hK K hH on ff
          try simp only [Act.put]
          refine wpAnyH_take (i := 17) (v := ?_) rfl (by kernel_rfl) (by kernel_rfl) (by kernel_rfl) (fun _ _ _ h => h) (Or.inl ⟨by rfl, ?_⟩) hHeld ?_
          rotate_left
          · intro w2 hSw
            go_simp
            all_goals rfl
          try simp only [Act.put, List.getElem_toArray, List.getElem_cons_zero, List.getElem_cons_succ, List.setIfInBounds_toArray, List.set_cons_zero, List.set_cons_succ]
          refine wpAnyH_done (by kernel_rfl) ?_ _
          go_wp2_with fail
          go_meet
          exact ⟨eb, fb, rfl, rfl, rfl, rfl, ((Only.refl _ w1).drew).then hHeld, fen, ffn⟩
        refine AllReadyH.cons rfl (fun K hK => ?_) AllReadyH.nil
        have qfe := Blk.lt fe
        rw [if_pos (by rfl)]
        refine wp_alloc_go _ rfl _ flt_zero' ?_
        intro fb wn nfb kn mfb ff
        have lfb := hHeld.size
        rw [nfb] at lfb
        refine hK.out _ _ (hHeld.then kn) (fun hHeld => ?_)
        clear hK K
        try simp only [Act.put]
        replace fe := fe.kept kn
        replace sN := sN.kept kn
        clear kn
        refine wpAnyH_ready (rs := [6]) (by kernel_rfl) (by simp) ?_
        refine AllReadyH.cons rfl (fun K hK => ?_) AllReadyH.nil
        go_simp
        refine (ttr_any (hT.kept (k1.then (((Only.refl _ w1).drew).then (hHeld)))) sN.m hS _ _ _ _ hk3 ha).mono ?_
        rintro e wn ⟨rfl, kT⟩
        rw [tr_off]
        go_simp
        refine hK.out _ _ (hHeld.then kT) (fun hHeld => ?_)
        clear hK K
        try simp only [Act.put, List.setIfInBounds_toArray, List.set_cons_zero, List.set_cons_succ]
        replace fe := fe.kept kT
        replace ff := ff.kept kT
        clear kT
        refine wpAnyH_take (i := 7) (v := ?_) rfl (by kernel_rfl) (by kernel_rfl) (by kernel_rfl) (fun _ _ _ h => h) (Or.inl ⟨by rfl, ?_⟩) hHeld ?_
        rotate_left
        · intro w2 hSw
          go_simp
          all_goals rfl
        try simp only [Act.put, List.getElem_toArray, List.getElem_cons_zero, List.getElem_cons_succ, List.setIfInBounds_toArray, List.set_cons_zero, List.set_cons_succ]
        refine wpAnyH_take (i := 8) (v := ?_) rfl (by kernel_rfl) (by kernel_rfl) (by kernel_rfl) (fun _ _ _ h => h) (Or.inl ⟨by rfl, ?_⟩) hHeld ?_
        rotate_left
        · intro w2 hSw
          go_simp
          all_goals rfl
        try simp only [Act.put, List.getElem_toArray, List.getElem_cons_zero, List.getElem_cons_succ, List.setIfInBounds_toArray, List.set_cons_zero, List.set_cons_succ]
        refine wpAnyH_take (i := 9) (v := ?_) rfl (by kernel_rfl) (by kernel_rfl) (by kernel_rfl) (fun _ _ _ h => h) (Or.inl ⟨by rfl, ?_⟩) hHeld ?_
        rotate_left
        · intro w2 hSw
          go_simp
          all_goals rfl
        try simp only [Act.put, List.getElem_toArray, List.getElem_cons_zero, List.getElem_cons_succ, List.setIfInBounds_toArray, List.set_cons_zero, List.set_cons_succ]
        refine wpAnyH_take (i := 10) (v := ?_) rfl (by kernel_rfl) (by kernel_rfl) (by kernel_rfl) (fun _ _ _ h => h) (Or.inl ⟨by rfl, ?_⟩) hHeld ?_
        rotate_left
        · intro w2 hSw
          go_simp
          all_goals rfl
        try simp only [Act.put, List.getElem_toArray, List.getElem_cons_zero, List.getElem_cons_succ, List.setIfInBounds_toArray, List.set_cons_zero, List.set_cons_succ]
        refine wpAnyH_take (i := 11) (v := ?_) rfl (by kernel_rfl) (by kernel_rfl) (by kernel_rfl) (fun _ _ _ h => h) (Or.inl ⟨by rfl, ?_⟩) hHeld ?_
        rotate_left
        · intro w2 hSw
          go_simp
          all_goals rfl
        try simp only [Act.put, List.getElem_toArray, List.getElem_cons_zero, List.getElem_cons_succ, List.setIfInBounds_toArray, List.set_cons_zero, List.set_cons_succ]
        refine wpAnyH_take (i := 14) (v := ?_) rfl (by kernel_rfl) (by kernel_rfl) (by kernel_rfl) (fun _ _ _ h => h) (Or.inl ⟨by rfl, ?_⟩) hHeld ?_
        rotate_left
        · intro w2 hSw
          go_simp
          all_goals rfl
        try simp only [Act.put, List.getElem_toArray, List.getElem_cons_zero, List.getElem_cons_succ, List.setIfInBounds_toArray, List.set_cons_zero, List.set_cons_succ]
        refine wpAnyH_ready (rs := [15]) (by kernel_rfl) (by simp) ?_
        refine AllReadyH.cons rfl (fun K hK => ?_) AllReadyH.nil
        rw [if_pos (by rfl)]
        refine wp_store_go _ _ _ rfl eb (entA (offE at_)).toArray rfl rfl fe (ent_size' _) ((ent_len _).trans (ent_len _).symm) (ent_ones' _) ?_
        intro wn on fen
        have hH := hHeld.new on fun i hi => by omega
        replace ff := ff.past on (by omega)
        refine hK.out _ _ hH (fun hHeld => ?_)
        clear hK K hH on fe
        try simp only [Act.put, List.setIfInBounds_toArray]
        refine wpAnyH_ready (rs := [16]) (by kernel_rfl) (by simp) ?_
        refine AllReadyH.cons rfl (fun K hK => ?_) AllReadyH.nil
        rw [if_pos (by rfl)]
        refine wp_store_go _ _ _ rfl fb (fltA fltNone).toArray rfl rfl ff (flt_size' _) ((flt_len _).trans (flt_len _).symm) (flt_ones' _) ?_
        intro wn on ffn
        have hH := hHeld.new on fun i hi => by omega
        replace fen := fen.past on (by omega)
        refine hK.out _ _ hH (fun hHeld => ?_)
        clear hK K hH on ff
        try simp only [Act.put]
        refine wpAnyH_take (i := 17) (v := ?_) rfl (by kernel_rfl) (by kernel_rfl) (by kernel_rfl) (fun _ _ _ h => h) (Or.inl ⟨by rfl, ?_⟩) hHeld ?_
        rotate_left
        · intro w2 hSw
          go_simp
          all_goals rfl
        try simp only [Act.put, List.getElem_toArray, List.getElem_cons_zero, List.getElem_cons_succ, List.setIfInBounds_toArray, List.set_cons_zero, List.set_cons_succ]
        refine wpAnyH_done (by kernel_rfl) ?_ _
        go_wp2_with fail
        go_meet
        exact ⟨eb, fb, rfl, rfl, rfl, rfl, ((Only.refl _ w1).drew).then hHeld, fen, ffn⟩
      refine AllReadyH.cons rfl (fun K hK => ?_) AllReadyH.nil
      rw [if_pos (by rfl)]
      refine wp_alloc_go _ rfl _ flt_zero' ?_
      intro fb wn nfb kn mfb ff
      have lfb := hHeld.size
      rw [nfb] at lfb
      refine hK.out _ _ (hHeld.then kn) (fun hHeld => ?_)
      clear hK K
      try simp only [Act.put, List.setIfInBounds_toArray]
      replace sN := sN.kept kn
      clear kn
      refine wpAnyH_ready (rs := [6, 12]) (by kernel_rfl) (by simp) ?_
      refine AllReadyH.cons rfl (fun K hK => ?_) ?_
      · go_simp
        refine (ttr_any (hT.kept (k1.then (((Only.refl _ w1).drew).then (hHeld)))) sN.m hS _ _ _ _ hk3 ha).mono ?_
        rintro e wn ⟨rfl, kT⟩
        rw [tr_off]
        go_simp
        refine hK.out _ _ (hHeld.then kT) (fun hHeld => ?_)
        clear hK K
        try simp only [Act.put, List.setIfInBounds_toArray, List.set_cons_zero, List.set_cons_succ]
        replace ff := ff.kept kT
        clear kT
        refine wpAnyH_take (i := 7) (v := ?_) rfl (by kernel_rfl) (by kernel_rfl) (by kernel_rfl) (fun _ _ _ h => h) (Or.inl ⟨by rfl, ?_⟩) hHeld ?_
        rotate_left
        · intro w2 hSw
          go_simp
          all_goals rfl
        try simp only [Act.put, List.getElem_toArray, List.getElem_cons_zero, List.getElem_cons_succ, List.setIfInBounds_toArray, List.set_cons_zero, List.set_cons_succ]
        refine wpAnyH_take (i := 8) (v := ?_) rfl (by kernel_rfl) (by kernel_rfl) (by kernel_rfl) (fun _ _ _ h => h) (Or.inl ⟨by rfl, ?_⟩) hHeld ?_
        rotate_left
        · intro w2 hSw
          go_simp
          all_goals rfl
        try simp only [Act.put, List.getElem_toArray, List.getElem_cons_zero, List.getElem_cons_succ, List.setIfInBounds_toArray, List.set_cons_zero, List.set_cons_succ]
        refine wpAnyH_take (i := 9) (v := ?_) rfl (by kernel_rfl) (by kernel_rfl) (by kernel_rfl) (fun _ _ _ h => h) (Or.inl ⟨by rfl, ?_⟩) hHeld ?_
        rotate_left
        · intro w2 hSw
          go_simp
          all_goals rfl
        try simp only [Act.put, List.getElem_toArray, List.getElem_cons_zero, List.getElem_cons_succ, List.setIfInBounds_toArray, List.set_cons_zero, List.set_cons_succ]
        refine wpAnyH_take (i := 10) (v := ?_) rfl (by kernel_rfl) (by kernel_rfl) (by kernel_rfl) (fun _ _ _ h => h) (Or.inl ⟨by rfl, ?_⟩) hHeld ?_
        rotate_left
        · intro w2 hSw
          go_simp
          all_goals rfl
        try simp only [Act.put, List.getElem_toArray, List.getElem_cons_zero, List.getElem_cons_succ, List.setIfInBounds_toArray, List.set_cons_zero, List.set_cons_succ]
        refine wpAnyH_take (i := 11) (v := ?_) rfl (by kernel_rfl) (by kernel_rfl) (by kernel_rfl) (fun _ _ _ h => h) (Or.inl ⟨by rfl, ?_⟩) hHeld ?_
        rotate_left
        · intro w2 hSw
          go_simp
          all_goals rfl
        try simp only [Act.put, List.getElem_toArray, List.getElem_cons_zero, List.getElem_cons_succ, List.setIfInBounds_toArray, List.set_cons_zero, List.set_cons_succ]
        refine wpAnyH_ready (rs := [12]) (by kernel_rfl) (by simp) ?_
        refine AllReadyH.cons rfl (fun K hK => ?_) AllReadyH.nil
        have qff := Blk.lt ff
        rw [if_pos (by rfl)]
        refine wp_alloc_go _ rfl _ ent_zero' ?_
        intro eb wn neb kn meb fe
        have leb := hHeld.size
        rw [neb] at leb
        refine hK.out _ _ (hHeld.then kn) (fun hHeld => ?_)
        clear hK K
        try simp only [Act.put, List.setIfInBounds_toArray]
        replace ff := ff.kept kn
        clear kn
        refine wpAnyH_take (i := 14) (v := ?_) rfl (by kernel_rfl) (by kernel_rfl) (by kernel_rfl) (fun _ _ _ h => h) (Or.inl ⟨by rfl, ?_⟩) hHeld ?_
        rotate_left
        · intro w2 hSw
          go_simp
          all_goals rfl
        try simp only [Act.put, List.getElem_toArray, List.getElem_cons_zero, List.getElem_cons_succ, List.setIfInBounds_toArray, List.set_cons_zero, List.set_cons_succ]
        refine wpAnyH_ready (rs := [15]) (by kernel_rfl) (by simp) ?_
        refine AllReadyH.cons rfl (fun K hK => ?_) AllReadyH.nil
        rw [if_pos (by rfl)]
        refine wp_store_go _ _ _ rfl eb (entA (offE at_)).toArray rfl rfl fe (ent_size' _) ((ent_len _).trans (ent_len _).symm) (ent_ones' _) ?_
        intro wn on fen
        have hH := hHeld.new on fun i hi => by omega
        replace ff := ff.past on (by omega)
        refine hK.out _ _ hH (fun hHeld => ?_)
        clear hK K hH on fe
        try simp only [Act.put, List.setIfInBounds_toArray]
        refine wpAnyH_ready (rs := [16]) (by kernel_rfl) (by simp) ?_
        refine AllReadyH.cons rfl (fun K hK => ?_) AllReadyH.nil
        rw [if_pos (by rfl)]
        refine wp_store_go _ _ _ rfl fb (fltA fltNone).toArray rfl rfl ff (flt_size' _) ((flt_len _).trans (flt_len _).symm) (flt_ones' _) ?_
        intro wn on ffn
        have hH := hHeld.new on fun i hi => by omega
        replace fen := fen.past on (by omega)
        refine hK.out _ _ hH (fun hHeld => ?_)
        clear hK K hH on ff
        try simp only [Act.put]
        refine wpAnyH_take (i := 17) (v := ?_) rfl (by kernel_rfl) (by kernel_rfl) (by kernel_rfl) (fun _ _ _ h => h) (Or.inl ⟨by rfl, ?_⟩) hHeld ?_
        rotate_left
        · intro w2 hSw
          go_simp
          all_goals rfl
        try simp only [Act.put, List.getElem_toArray, List.getElem_cons_zero, List.getElem_cons_succ, List.setIfInBounds_toArray, List.set_cons_zero, List.set_cons_succ]
        refine wpAnyH_done (by kernel_rfl) ?_ _
        go_wp2_with fail
        go_meet
        exact ⟨eb, fb, rfl, rfl, rfl, rfl, ((Only.refl _ w1).drew).then hHeld, fen, ffn⟩
      refine AllReadyH.cons rfl (fun K hK => ?_) AllReadyH.nil
      have qff := Blk.lt ff
      rw [if_pos (by rfl)]
      refine wp_alloc_go _ rfl _ ent_zero' ?_
      intro eb wn neb kn meb fe
      have leb := hHeld.size
      rw [neb] at leb
      refine hK.out _ _ (hHeld.then kn) (fun hHeld => ?_)
      clear hK K
      try simp only [Act.put]
      replace ff := ff.kept kn
      replace sN := sN.kept kn
      clear kn
      refine wpAnyH_ready (rs := [6]) (by kernel_rfl) (by simp) ?_
      refine AllReadyH.cons rfl (fun K hK => ?_) AllReadyH.nil
      go_simp
      refine (ttr_any (hT.kept (k1.then (((Only.refl _ w1).drew).then (hHeld)))) sN.m hS _ _ _ _ hk3 ha).mono ?_
      rintro e wn ⟨rfl, kT⟩
      rw [tr_off]
      go_simp
      refine hK.out _ _ (hHeld.then kT) (fun hHeld => ?_)
      clear hK K
      try simp only [Act.put, List.setIfInBounds_toArray, List.set_cons_zero, List.set_cons_succ]
      replace ff := ff.kept kT
      replace fe := fe.kept kT
      clear kT
      refine wpAnyH_take (i := 7) (v := ?_) rfl (by kernel_rfl) (by kernel_rfl) (by kernel_rfl) (fun _ _ _ h => h) (Or.inl ⟨by rfl, ?_⟩) hHeld ?_
      rotate_left
      · intro w2 hSw
        go_simp
        all_goals rfl
      try simp only [Act.put, List.getElem_toArray, List.getElem_cons_zero, List.getElem_cons_succ, List.setIfInBounds_toArray, List.set_cons_zero, List.set_cons_succ]
      refine wpAnyH_take (i := 8) (v := ?_) rfl (by kernel_rfl) (by kernel_rfl) (by kernel_rfl) (fun _ _ _ h => h) (Or.inl ⟨by rfl, ?_⟩) hHeld ?_
      rotate_left
      · intro w2 hSw
        go_simp
        all_goals rfl
      try simp only [Act.put, List.getElem_toArray, List.getElem_cons_zero, List.getElem_cons_succ, List.setIfInBounds_toArray, List.set_cons_zero, List.set_cons_succ]
      refine wpAnyH_take (i := 9) (v := ?_) rfl (by kernel_rfl) (by kernel_rfl) (by kernel_rfl) (fun _ _ _ h => h) (Or.inl ⟨by rfl, ?_⟩) hHeld ?_
      rotate_left
      · intro w2 hSw
        go_simp
        all_goals rfl
      try simp only [Act.put, List.getElem_toArray, List.getElem_cons_zero, List.getElem_cons_succ, List.setIfInBounds_toArray, List.set_cons_zero, List.set_cons_succ]
      refine wpAnyH_take (i := 10) (v := ?_) rfl (by kernel_rfl) (by kernel_rfl) (by kernel_rfl) (fun _ _ _ h => h) (Or.inl ⟨by rfl, ?_⟩) hHeld ?_
      rotate_left
      · intro w2 hSw
        go_simp
        all_goals rfl
      try simp only [Act.put, List.getElem_toArray, List.getElem_cons_zero, List.getElem_cons_succ, List.setIfInBounds_toArray, List.set_cons_zero, List.set_cons_succ]
      refine wpAnyH_take (i := 11) (v := ?_) rfl (by kernel_rfl) (by kernel_rfl) (by kernel_rfl) (fun _ _ _ h => h) (Or.inl ⟨by rfl, ?_⟩) hHeld ?_
      rotate_left
      · intro w2 hSw
        go_simp
        all_goals rfl
      try simp only [Act.put, List.getElem_toArray, List.getElem_cons_zero, List.getElem_cons_succ, List.setIfInBounds_toArray, List.set_cons_zero, List.set_cons_succ]
      refine wpAnyH_take (i := 14) (v := ?_) rfl (by kernel_rfl) (by kernel_rfl) (by kernel_rfl) (fun _ _ _ h => h) (Or.inl ⟨by rfl, ?_⟩) hHeld ?_
      rotate_left
      · intro w2 hSw
        go_simp
        all_goals rfl
      try simp only [Act.put, List.getElem_toArray, List.getElem_cons_zero, List.getElem_cons_succ, List.setIfInBounds_toArray, List.set_cons_zero, List.set_cons_succ]
      refine wpAnyH_ready (rs := [15]) (by kernel_rfl) (by simp) ?_
      refine AllReadyH.cons rfl (fun K hK => ?_) AllReadyH.nil
      rw [if_pos (by rfl)]
      refine wp_store_go _ _ _ rfl eb (entA (offE at_)).toArray rfl rfl fe (ent_size' _) ((ent_len _).trans (ent_len _).symm) (ent_ones' _) ?_
      intro wn on fen
      have hH := hHeld.new on fun i hi => by omega
      replace ff := ff.past on (by omega)
      refine hK.out _ _ hH (fun hHeld => ?_)
      clear hK K hH on fe
      try simp only [Act.put, List.setIfInBounds_toArray]
      refine wpAnyH_ready (rs := [16]) (by kernel_rfl) (by simp) ?_
      refine AllReadyH.cons rfl (fun K hK => ?_) AllReadyH.nil
      rw [if_pos (by rfl)]
      refine wp_store_go _ _ _ rfl fb (fltA fltNone).toArray rfl rfl ff (flt_size' _) ((flt_len _).trans (flt_len _).symm) (flt_ones' _) ?_
      intro wn on ffn
      have hH := hHeld.new on fun i hi => by omega
      replace fen := fen.past on (by omega)
      refine hK.out _ _ hH (fun hHeld => ?_)
      clear hK K hH on ff
      try simp only [Act.put]
      refine wpAnyH_take (i := 17) (v := ?_) rfl (by kernel_rfl) (by kernel_rfl) (by kernel_rfl) (fun _ _ _ h => h) (Or.inl ⟨by rfl, ?_⟩) hHeld ?_
      rotate_left
      · intro w2 hSw
        go_simp
        all_goals rfl
      try simp only [Act.put, List.getElem_toArray, List.getElem_cons_zero, List.getElem_cons_succ, List.setIfInBounds_toArray, List.set_cons_zero, List.set_cons_succ]
      refine wpAnyH_done (by kernel_rfl) ?_ _
      go_wp2_with fail
      go_meet
      exact ⟨eb, fb, rfl, rfl, rfl, rfl, ((Only.refl _ w1).drew).then hHeld, fen, ffn⟩
    refine AllReadyH.cons rfl (fun K hK => ?_) ?_
    · rw [if_pos (by rfl)]
      refine wp_alloc_go _ rfl _ ent_zero' ?_
      intro eb wn neb kn meb fe
      have leb := hHeld.size
      rw [neb] at leb
      refine hK.out _ _ (hHeld.then kn) (fun hHeld => ?_)
      clear hK K
      try simp only [Act.put, List.setIfInBounds_toArray]
      clear kn
      refine wpAnyH_ready (rs := [0, 13]) (by kernel_rfl) (by simp) ?_
      refine AllReadyH.cons rfl (fun K hK => ?_) ?_
      · go_simp
        refine (new_from (Only.refl _ _)).mono ?_
        rintro e wn ⟨p, q, rfl, sN⟩
        have kN := sN.k
        go_simp
        refine hK.out _ _ (hHeld.then kN) (fun hHeld => ?_)
        clear hK K
        try simp only [Act.put, List.setIfInBounds_toArray, List.set_cons_zero, List.set_cons_succ]
        replace fe := fe.kept kN
        refine wpAnyH_ready (rs := [6, 13]) (by kernel_rfl) (by simp) ?_
        refine AllReadyH.cons rfl (fun K hK => ?_) ?_
        · go_simp
          refine (ttr_any (hT.kept (k1.then (((Only.refl _ w1).drew).then (hHeld)))) sN.m hS _ _ _ _ hk3 ha).mono ?_
          rintro e wn ⟨rfl, kT⟩
          rw [tr_off]
          go_simp
          refine hK.out _ _ (hHeld.then kT) (fun hHeld => ?_)
          clear hK K
          try simp only [Act.put, List.setIfInBounds_toArray, List.set_cons_zero, List.set_cons_succ]
          replace fe := fe.kept kT
          clear kT
          refine wpAnyH_take (i := 7) (v := ?_) rfl (by kernel_rfl) (by kernel_rfl) (by kernel_rfl) (fun _ _ _ h => h) (Or.inl ⟨by rfl, ?_⟩) hHeld ?_
          rotate_left
          · intro w2 hSw
            go_simp
            all_goals rfl
          try simp only [Act.put, List.getElem_toArray, List.getElem_cons_zero, List.getElem_cons_succ, List.setIfInBounds_toArray, List.set_cons_zero, List.set_cons_succ]
          refine wpAnyH_take (i := 8) (v := ?_) rfl (by kernel_rfl) (by kernel_rfl) (by kernel_rfl) (fun _ _ _ h => h) (Or.inl ⟨by rfl, ?_⟩) hHeld ?_
          rotate_left
          · intro w2 hSw
            go_simp
            all_goals rfl
          try simp only [Act.put, List.getElem_toArray, List.getElem_cons_zero, List.getElem_cons_succ, List.setIfInBounds_toArray, List.set_cons_zero, List.set_cons_succ]
          refine wpAnyH_take (i := 9) (v := ?_) rfl (by kernel_rfl) (by kernel_rfl) (by kernel_rfl) (fun _ _ _ h => h) (Or.inl ⟨by rfl, ?_⟩) hHeld ?_
          rotate_left
          · intro w2 hSw
            go_simp
            all_goals rfl
          try simp only [Act.put, List.getElem_toArray, List.getElem_cons_zero, List.getElem_cons_succ, List.setIfInBounds_toArray, List.set_cons_zero, List.set_cons_succ]
          refine wpAnyH_take (i := 10) (v := ?_) rfl (by kernel_rfl) (by kernel_rfl) (by kernel_rfl) (fun _ _ _ h => h) (Or.inl ⟨by rfl, ?_⟩) hHeld ?_
          rotate_left
          · intro w2 hSw
            go_simp
            all_goals rfl
          try simp only [Act.put, List.getElem_toArray, List.getElem_cons_zero, List.getElem_cons_succ, List.setIfInBounds_toArray, List.set_cons_zero, List.set_cons_succ]
          refine wpAnyH_take (i := 11) (v := ?_) rfl (by kernel_rfl) (by kernel_rfl) (by kernel_rfl) (fun _ _ _ h => h) (Or.inl ⟨by rfl, ?_⟩) hHeld ?_
          rotate_left
          · intro w2 hSw
            go_simp
            all_goals rfl
          try simp only [Act.put, List.getElem_toArray, List.getElem_cons_zero, List.getElem_cons_succ, List.setIfInBounds_toArray, List.set_cons_zero, List.set_cons_succ]
          refine wpAnyH_ready (rs := [13]) (by kernel_rfl) (by simp) ?_
          refine AllReadyH.cons rfl (fun K hK => ?_) AllReadyH.nil
          have qfe := Blk.lt fe
          rw [if_pos (by rfl)]
          refine wp_alloc_go _ rfl _ flt_zero' ?_
          intro fb wn nfb kn mfb ff
          have lfb := hHeld.size
          rw [nfb] at lfb
          refine hK.out _ _ (hHeld.then kn) (fun hHeld => ?_)
          clear hK K
          try simp only [Act.put, List.setIfInBounds_toArray]
          replace fe := fe.kept kn
          clear kn
          refine wpAnyH_take (i := 14) (v := ?_) rfl (by kernel_rfl) (by kernel_rfl) (by kernel_rfl) (fun _ _ _ h => h) (Or.inl ⟨by rfl, ?_⟩) hHeld ?_
          rotate_left
          · intro w2 hSw
            go_simp
            all_goals rfl
          try simp only [Act.put, List.getElem_toArray, List.getElem_cons_zero, List.getElem_cons_succ, List.setIfInBounds_toArray, List.set_cons_zero, List.set_cons_succ]
          refine wpAnyH_ready (rs := [15]) (by kernel_rfl) (by simp) ?_
          refine AllReadyH.cons rfl (fun K hK => ?_) AllReadyH.nil
          rw [if_pos (by rfl)]
          refine wp_store_go _ _ _ rfl eb (entA (offE at_)).toArray rfl rfl fe (ent_size' _) ((ent_len _).trans (ent_len _).symm) (ent_ones' _) ?_
          intro wn on fen
          have hH := hHeld.new on fun i hi => by omega
          replace ff := ff.past on (by omega)
          refine hK.out _ _ hH (fun hHeld => ?_)
          clear hK K hH on fe
          try simp only [Act.put, List.setIfInBounds_toArray]
          refine wpAnyH_ready (rs := [16]) (by kernel_rfl) (by simp) ?_
          refine AllReadyH.cons rfl (fun K hK => ?_) AllReadyH.nil
          rw [if_pos (by rfl)]
          refine wp_store_go _ _ _ rfl fb (fltA fltNone).toArray rfl rfl ff (flt_size' _) ((flt_len _).trans (flt_len _).symm) (flt_ones' _) ?_
          intro wn on ffn
          have hH := hHeld.new on fun i hi => by omega
          replace fen := fen.past on (by omega)
          refine hK.out _ _ hH (fun hHeld => ?_)
          clear hK K hH on ff
          try simp only [Act.put]
          refine wpAnyH_take (i := 17) (v := ?_) rfl (by kernel_rfl) (by kernel_rfl) (by kernel_rfl) (fun _ _ _ h => h) (Or.inl ⟨by rfl, ?_⟩) hHeld ?_
          rotate_left
          · intro w2 hSw
            go_simp
            all_goals rfl
          try simp only [Act.put, List.getElem_toArray, List.getElem_cons_zero, List.getElem_cons_succ, List.setIfInBounds_toArray, List.set_cons_zero, List.set_cons_succ]
          refine wpAnyH_done (by kernel_rfl) ?_ _
          go_wp2_with fail
          go_meet
          exact ⟨eb, fb, rfl, rfl, rfl, rfl, ((Only.refl _ w1).drew).then hHeld, fen, ffn⟩
        refine AllReadyH.cons rfl (fun K hK => ?_) AllReadyH.nil
        have qfe := Blk.lt fe
        rw [if_pos (by rfl)]
        refine wp_alloc_go _ rfl _ flt_zero' ?_
        intro fb wn nfb kn mfb ff
        have lfb := hHeld.size
        rw [nfb] at lfb
        refine hK.out _ _ (hHeld.then kn) (fun hHeld => ?_)
        clear hK K
        try simp only [Act.put, List.setIfInBounds_toArray]
        replace fe := fe.kept kn
        replace sN := sN.kept kn
        clear kn
        refine wpAnyH_ready (rs := [6]) (by kernel_rfl) (by simp) ?_
        refine AllReadyH.cons rfl (fun K hK => ?_) AllReadyH.nil
        go_simp
        refine (ttr_any (hT.kept (k1.then (((Only.refl _ w1).drew).then (hHeld)))) sN.m hS _ _ _ _ hk3 ha).mono ?_
        rintro e wn ⟨rfl, kT⟩
        rw [tr_off]
        go_simp
        refine hK.out _ _ (hHeld.then kT) (fun hHeld => ?_)
        clear hK K
        try simp only [Act.put, List.setIfInBounds_toArray, List.set_cons_zero, List.set_cons_succ]
        replace fe := fe.kept kT
        replace ff := ff.kept kT
        clear kT
        refine wpAnyH_take (i := 7) (v := ?_) rfl (by kernel_rfl) (by kernel_rfl) (by kernel_rfl) (fun _ _ _ h => h) (Or.inl ⟨by rfl, ?_⟩) hHeld ?_
        rotate_left
        · intro w2 hSw
          go_simp
          all_goals rfl
        try simp only [Act.put, List.getElem_toArray, List.getElem_cons_zero, List.getElem_cons_succ, List.setIfInBounds_toArray, List.set_cons_zero, List.set_cons_succ]
        refine wpAnyH_take (i := 8) (v := ?_) rfl (by kernel_rfl) (by kernel_rfl) (by kernel_rfl) (fun _ _ _ h => h) (Or.inl ⟨by rfl, ?_⟩) hHeld ?_
        rotate_left
        · intro w2 hSw
          go_simp
          all_goals rfl
        try simp only [Act.put, List.getElem_toArray, List.getElem_cons_zero, List.getElem_cons_succ, List.setIfInBounds_toArray, List.set_cons_zero, List.set_cons_succ]
        refine wpAnyH_take (i := 9) (v := ?_) rfl (by kernel_rfl) (by kernel_rfl) (by kernel_rfl) (fun _ _ _ h => h) (Or.inl ⟨by rfl, ?_⟩) hHeld ?_
        rotate_left
        · intro w2 hSw
          go_simp
          all_goals rfl
        try simp only [Act.put, List.getElem_toArray, List.getElem_cons_zero, List.getElem_cons_succ, List.setIfInBounds_toArray, List.set_cons_zero, List.set_cons_succ]
        refine wpAnyH_take (i := 10) (v := ?_) rfl (by kernel_rfl) (by kernel_rfl) (by kernel_rfl) (fun _ _ _ h => h) (Or.inl ⟨by rfl, ?_⟩) hHeld ?_
        rotate_left
        · intro w2 hSw
          go_simp
          all_goals rfl
        try simp only [Act.put, List.getElem_toArray, List.getElem_cons_zero, List.getElem_cons_succ, List.setIfInBounds_toArray, List.set_cons_zero, List.set_cons_succ]
        refine wpAnyH_take (i := 11) (v := ?_) rfl (by kernel_rfl) (by kernel_rfl) (by kernel_rfl) (fun _ _ _ h => h) (Or.inl ⟨by rfl, ?_⟩) hHeld ?_
        rotate_left
        · intro w2 hSw
          go_simp
          all_goals rfl
        try simp only [Act.put, List.getElem_toArray, List.getElem_cons_zero, List.getElem_cons_succ, List.setIfInBounds_toArray, List.set_cons_zero, List.set_cons_succ]
        refine wpAnyH_take (i := 14) (v := ?_) rfl (by kernel_rfl) (by kernel_rfl) (by kernel_rfl) (fun _ _ _ h => h) (Or.inl ⟨by rfl, ?_⟩) hHeld ?_
        rotate_left
        · intro w2 hSw
          go_simp
          all_goals rfl
        try simp only [Act.put, List.getElem_toArray, List.getElem_cons_zero, List.getElem_cons_succ, List.setIfInBounds_toArray, List.set_cons_zero, List.set_cons_succ]
        refine wpAnyH_ready (rs := [15]) (by kernel_rfl) (by simp) ?_
        refine AllReadyH.cons rfl (fun K hK => ?_) AllReadyH.nil
        rw [if_pos (by rfl)]
        refine wp_store_go _ _ _ rfl eb (entA (offE at_)).toArray rfl rfl fe (ent_size' _) ((ent_len _).trans (ent_len _).symm) (ent_ones' _) ?_
        intro wn on fen
        have hH := hHeld.new on fun i hi => by omega
        replace ff := ff.past on (by omega)
        refine hK.out _ _ hH (fun hHeld => ?_)
        clear hK K hH on fe
        try simp only [Act.put, List.setIfInBounds_toArray]
        refine wpAnyH_ready (rs := [16]) (by kernel_rfl) (by simp) ?_
        refine AllReadyH.cons rfl (fun K hK => ?_) AllReadyH.nil
        rw [if_pos (by rfl)]
        refine wp_store_go _ _ _ rfl fb (fltA fltNone).toArray rfl rfl ff (flt_size' _) ((flt_len _).trans (flt_len _).symm) (flt_ones' _) ?_
        intro wn on ffn
        have hH := hHeld.new on fun i hi => by omega
        replace fen := fen.past on (by omega)
        refine hK.out _ _ hH (fun hHeld => ?_)
        clear hK K hH on ff
        try simp only [Act.put]
        refine wpAnyH_take (i := 17) (v := ?_) rfl (by kernel_rfl) (by kernel_rfl) (by kernel_rfl) (fun _ _ _ h => h) (Or.inl ⟨by rfl, ?_⟩) hHeld ?_
        rotate_left
        · intro w2 hSw
          go_simp
          all_goals rfl
        try simp only [Act.put, List.getElem_toArray, List.getElem_cons_zero, List.getElem_cons_succ, List.setIfInBounds_toArray, List.set_cons_zero, List.set_cons_succ]
        refine wpAnyH_done (by kernel_rfl) ?_ _
        go_wp2_with fail
        go_meet
        exact ⟨eb, fb, rfl, rfl, rfl, rfl, ((Only.refl _ w1).drew).then hHeld, fen, ffn⟩
      refine AllReadyH.cons rfl (fun K hK => ?_) AllReadyH.nil
      have qfe := Blk.lt fe
      rw [if_pos (by rfl)]
      refine wp_alloc_go _ rfl _ flt_zero' ?_
      intro fb wn nfb kn mfb ff
      have lfb := hHeld.size
      rw [nfb] at lfb
      refine hK.out _ _ (hHeld.then kn) (fun hHeld => ?_)
      clear hK K
      try simp only [Act.put]
      replace fe := fe.kept kn
      clear kn
      refine wpAnyH_ready (rs := [0]) (by kernel_rfl) (by simp) ?_
      refine AllReadyH.cons rfl (fun K hK => ?_) AllReadyH.nil
      go_simp
      refine (new_from (Only.refl _ _)).mono ?_
      rintro e wn ⟨p, q, rfl, sN⟩
      have kN := sN.k
      go_simp
      refine hK.out _ _ (hHeld.then kN) (fun hHeld => ?_)
      clear hK K
      try simp only [Act.put, List.setIfInBounds_toArray, List.set_cons_zero, List.set_cons_succ]
      replace fe := fe.kept kN
      replace ff := ff.kept kN
      refine wpAnyH_ready (rs := [6]) (by kernel_rfl) (by simp) ?_
      refine AllReadyH.cons rfl (fun K hK => ?_) AllReadyH.nil
      go_simp
      refine (ttr_any (hT.kept (k1.then (((Only.refl _ w1).drew).then (hHeld)))) sN.m hS _ _ _ _ hk3 ha).mono ?_
      rintro e wn ⟨rfl, kT⟩
      rw [tr_off]
      go_simp
      refine hK.out _ _ (hHeld.then kT) (fun hHeld => ?_)
      clear hK K
      try simp only [Act.put, List.setIfInBounds_toArray, List.set_cons_zero, List.set_cons_succ]
      replace fe := fe.kept kT
      replace ff := ff.kept kT
      clear kT
      refine wpAnyH_take (i := 7) (v := ?_) rfl (by kernel_rfl) (by kernel_rfl) (by kernel_rfl) (fun _ _ _ h => h) (Or.inl ⟨by rfl, ?_⟩) hHeld ?_
      rotate_left
      · intro w2 hSw
        go_simp
        all_goals rfl
      try simp only [Act.put, List.getElem_toArray, List.getElem_cons_zero, List.getElem_cons_succ, List.setIfInBounds_toArray, List.set_cons_zero, List.set_cons_succ]
      refine wpAnyH_take (i := 8) (v := ?_) rfl (by kernel_rfl) (by kernel_rfl) (by kernel_rfl) (fun _ _ _ h => h) (Or.inl ⟨by rfl, ?_⟩) hHeld ?_
      rotate_left
      · intro w2 hSw
        go_simp
        all_goals rfl
      try simp only [Act.put, List.getElem_toArray, List.getElem_cons_zero, List.getElem_cons_succ, List.setIfInBounds_toArray, List.set_cons_zero, List.set_cons_succ]
      refine wpAnyH_take (i := 9) (v := ?_) rfl (by kernel_rfl) (by kernel_rfl) (by kernel_rfl) (fun _ _ _ h => h) (Or.inl ⟨by rfl, ?_⟩) hHeld ?_
      rotate_left
      · intro w2 hSw
        go_simp
        all_goals rfl
      try simp only [Act.put, List.getElem_toArray, List.getElem_cons_zero, List.getElem_cons_succ, List.setIfInBounds_toArray, List.set_cons_zero, List.set_cons_succ]
      refine wpAnyH_take (i := 10) (v := ?_) rfl (by kernel_rfl) (by kernel_rfl) (by kernel_rfl) (fun _ _ _ h => h) (Or.inl ⟨by rfl, ?_⟩) hHeld ?_
      rotate_left
      · intro w2 hSw
        go_simp
        all_goals rfl
      try simp only [Act.put, List.getElem_toArray, List.getElem_cons_zero, List.getElem_cons_succ, List.setIfInBounds_toArray, List.set_cons_zero, List.set_cons_succ]
      refine wpAnyH_take (i := 11) (v := ?_) rfl (by kernel_rfl) (by kernel_rfl) (by kernel_rfl) (fun _ _ _ h => h) (Or.inl ⟨by rfl, ?_⟩) hHeld ?_
      rotate_left
      · intro w2 hSw
        go_simp
        all_goals rfl
      try simp only [Act.put, List.getElem_toArray, List.getElem_cons_zero, List.getElem_cons_succ, List.setIfInBounds_toArray, List.set_cons_zero, List.set_cons_succ]
      refine wpAnyH_take (i := 14) (v := ?_) rfl (by kernel_rfl) (by kernel_rfl) (by kernel_rfl) (fun _ _ _ h => h) (Or.inl ⟨by rfl, ?_⟩) hHeld ?_
      rotate_left
      · intro w2 hSw
        go_simp
        all_goals rfl
      try simp only [Act.put, List.getElem_toArray, List.getElem_cons_zero, List.getElem_cons_succ, List.setIfInBounds_toArray, List.set_cons_zero, List.set_cons_succ]
      refine wpAnyH_ready (rs := [15]) (by kernel_rfl) (by simp) ?_
      refine AllReadyH.cons rfl (fun K hK => ?_) AllReadyH.nil
      rw [if_pos (by rfl)]
      refine wp_store_go _ _ _ rfl eb (entA (offE at_)).toArray rfl rfl fe (ent_size' _) ((ent_len _).trans (ent_len _).symm) (ent_ones' _) ?_
      intro wn on fen
      have hH := hHeld.new on fun i hi => by omega
      replace ff := ff.past on (by omega)
      refine hK.out _ _ hH (fun hHeld => ?_)
      clear hK K hH on fe
      try simp only [Act.put, List.setIfInBounds_toArray]
      refine wpAnyH_ready (rs := [16]) (by kernel_rfl) (by simp) ?_
      refine AllReadyH.cons rfl (fun K hK => ?_) AllReadyH.nil
      rw [if_pos (by rfl)]
      refine wp_store_go _ _ _ rfl fb (fltA fltNone).toArray rfl rfl ff (flt_size' _) ((flt_len _).trans (flt_len _).symm) (flt_ones' _) ?_
      intro wn on ffn
      have hH := hHeld.new on fun i hi => by omega
      replace fen := fen.past on (by omega)
      refine hK.out _ _ hH (fun hHeld => ?_)
      clear hK K hH on ff
      try simp only [Act.put]
      refine wpAnyH_take (i := 17) (v := ?_) rfl (by kernel_rfl) (by kernel_rfl) (by kernel_rfl) (fun _ _ _ h => h) (Or.inl ⟨by rfl, ?_⟩) hHeld ?_
      rotate_left
      · intro w2 hSw
        go_simp
        all_goals rfl
      try simp only [Act.put, List.getElem_toArray, List.getElem_cons_zero, List.getElem_cons_succ, List.setIfInBounds_toArray, List.set_cons_zero, List.set_cons_succ]
      refine wpAnyH_done (by kernel_rfl) ?_ _
      go_wp2_with fail
      go_meet
      exact ⟨eb, fb, rfl, rfl, rfl, rfl, ((Only.refl _ w1).drew).then hHeld, fen, ffn⟩
    refine AllReadyH.cons rfl (fun K hK => ?_) AllReadyH.nil
    rw [if_pos (by rfl)]
    refine wp_alloc_go _ rfl _ flt_zero' ?_
    intro fb wn nfb kn mfb ff
    have lfb := hHeld.size
    rw [nfb] at lfb
    refine hK.out _ _ (hHeld.then kn) (fun hHeld => ?_)
    clear hK K
    try simp only [Act.put, List.setIfInBounds_toArray]
    clear kn
    refine wpAnyH_ready (rs := [0, 12]) (by kernel_rfl) (by simp) ?_
    refine AllReadyH.cons rfl (fun K hK => ?_) ?_
    · go_simp
      refine (new_from (Only.refl _ _)).mono ?_
      rintro e wn ⟨p, q, rfl, sN⟩
      have kN := sN.k
      go_simp
      refine hK.out _ _ (hHeld.then kN) (fun hHeld => ?_)
      clear hK K
      try simp only [Act.put, List.setIfInBounds_toArray, List.set_cons_zero, List.set_cons_succ]
      replace ff := ff.kept kN
      refine wpAnyH_ready (rs := [6, 12]) (by kernel_rfl) (by simp) ?_
      refine AllReadyH.cons rfl (fun K hK => ?_) ?_
      · go_simp
        refine (ttr_any (hT.kept (k1.then (((Only.refl _ w1).drew).then (hHeld)))) sN.m hS _ _ _ _ hk3 ha).mono ?_
        rintro e wn ⟨rfl, kT⟩
        rw [tr_off]
        go_simp
        refine hK.out _ _ (hHeld.then kT) (fun hHeld => ?_)
        clear hK K
        try simp only [Act.put, List.setIfInBounds_toArray, List.set_cons_zero, List.set_cons_succ]
        replace ff := ff.kept kT
        clear kT
        refine wpAnyH_take (i := 7) (v := ?_) rfl (by kernel_rfl) (by kernel_rfl) (by kernel_rfl) (fun _ _ _ h => h) (Or.inl ⟨by rfl, ?_⟩) hHeld ?_
        rotate_left
        · intro w2 hSw
          go_simp
          all_goals rfl
        try simp only [Act.put, List.getElem_toArray, List.getElem_cons_zero, List.getElem_cons_succ, List.setIfInBounds_toArray, List.set_cons_zero, List.set_cons_succ]
        refine wpAnyH_take (i := 8) (v := ?_) rfl (by kernel_rfl) (by kernel_rfl) (by kernel_rfl) (fun _ _ _ h => h) (Or.inl ⟨by rfl, ?_⟩) hHeld ?_
        rotate_left
        · intro w2 hSw
          go_simp
          all_goals rfl
        try simp only [Act.put, List.getElem_toArray, List.getElem_cons_zero, List.getElem_cons_succ, List.setIfInBounds_toArray, List.set_cons_zero, List.set_cons_succ]
        refine wpAnyH_take (i := 9) (v := ?_) rfl (by kernel_rfl) (by kernel_rfl) (by kernel_rfl) (fun _ _ _ h => h) (Or.inl ⟨by rfl, ?_⟩) hHeld ?_
        rotate_left
        · intro w2 hSw
          go_simp
          all_goals rfl
        try simp only [Act.put, List.getElem_toArray, List.getElem_cons_zero, List.getElem_cons_succ, List.setIfInBounds_toArray, List.set_cons_zero, List.set_cons_succ]
        refine wpAnyH_take (i := 10) (v := ?_) rfl (by kernel_rfl) (by kernel_rfl) (by kernel_rfl) (fun _ _ _ h => h) (Or.inl ⟨by rfl, ?_⟩) hHeld ?_
        rotate_left
        · intro w2 hSw
          go_simp
          all_goals rfl
        try simp only [Act.put, List.getElem_toArray, List.getElem_cons_zero, List.getElem_cons_succ, List.setIfInBounds_toArray, List.set_cons_zero, List.set_cons_succ]
        refine wpAnyH_take (i := 11) (v := ?_) rfl (by kernel_rfl) (by kernel_rfl) (by kernel_rfl) (fun _ _ _ h => h) (Or.inl ⟨by rfl, ?_⟩) hHeld ?_
        rotate_left
        · intro w2 hSw
          go_simp
          all_goals rfl
        try simp only [Act.put, List.getElem_toArray, List.getElem_cons_zero, List.getElem_cons_succ, List.setIfInBounds_toArray, List.set_cons_zero, List.set_cons_succ]
        refine wpAnyH_ready (rs := [12]) (by kernel_rfl) (by simp) ?_
        refine AllReadyH.cons rfl (fun K hK => ?_) AllReadyH.nil
        have qff := Blk.lt ff
        rw [if_pos (by rfl)]
        refine wp_alloc_go _ rfl _ ent_zero' ?_
        intro eb wn neb kn meb fe
        have leb := hHeld.size
        rw [neb] at leb
        refine hK.out _ _ (hHeld.then kn) (fun hHeld => ?_)
        clear hK K
        try simp only [Act.put, List.setIfInBounds_toArray]
        replace ff := ff.kept kn
        clear kn
        refine wpAnyH_take (i := 14) (v := ?_) rfl (by kernel_rfl) (by kernel_rfl) (by kernel_rfl) (fun _ _ _ h => h) (Or.inl ⟨by rfl, ?_⟩) hHeld ?_
        rotate_left
        · intro w2 hSw
          go_simp
          all_goals rfl
        try simp only [Act.put, List.getElem_toArray, List.getElem_cons_zero, List.getElem_cons_succ, List.setIfInBounds_toArray, List.set_cons_zero, List.set_cons_succ]
        refine wpAnyH_ready (rs := [15]) (by kernel_rfl) (by simp) ?_
        refine AllReadyH.cons rfl (fun K hK => ?_) AllReadyH.nil
        rw [if_pos (by rfl)]
        refine wp_store_go _ _ _ rfl eb (entA (offE at_)).toArray rfl rfl fe (ent_size' _) ((ent_len _).trans (ent_len _).symm) (ent_ones' _) ?_
        intro wn on fen
        have hH := hHeld.new on fun i hi => by omega
        replace ff := ff.past on (by omega)
        refine hK.out _ _ hH (fun hHeld => ?_)
        clear hK K hH on fe
        try simp only [Act.put, List.setIfInBounds_toArray]
        refine wpAnyH_ready (rs := [16]) (by kernel_rfl) (by simp) ?_
        refine AllReadyH.cons rfl (fun K hK => ?_) AllReadyH.nil
        rw [if_pos (by rfl)]
        refine wp_store_go _ _ _ rfl fb (fltA fltNone).toArray rfl rfl ff (flt_size' _) ((flt_len _).trans (flt_len _).symm) (flt_ones' _) ?_
        intro wn on ffn
        have hH := hHeld.new on fun i hi => by omega
        replace fen := fen.past on (by omega)
        refine hK.out _ _ hH (fun hHeld => ?_)
        clear hK K hH on ff
        try simp only [Act.put]
        refine wpAnyH_take (i := 17) (v := ?_) rfl (by kernel_rfl) (by kernel_rfl) (by kernel_rfl) (fun _ _ _ h => h) (Or.inl ⟨by rfl, ?_⟩) hHeld ?_
        rotate_left
        · intro w2 hSw
          go_simp
          all_goals rfl
        try simp only [Act.put, List.getElem_toArray, List.getElem_cons_zero, List.getElem_cons_succ, List.setIfInBounds_toArray, List.set_cons_zero, List.set_cons_succ]
        refine wpAnyH_done (by kernel_rfl) ?_ _
        go_wp2_with fail
        go_meet
        exact ⟨eb, fb, rfl, rfl, rfl, rfl, ((Only.refl _ w1).drew).then hHeld, fen, ffn⟩
      refine AllReadyH.cons rfl (fun K hK => ?_) AllReadyH.nil
      have qff := Blk.lt ff
      rw [if_pos (by rfl)]
      refine wp_alloc_go _ rfl _ ent_zero' ?_
      intro eb wn neb kn meb fe
      have leb := hHeld.size
      rw [neb] at leb
      refine hK.out _ _ (hHeld.then kn) (fun hHeld => ?_)
      clear hK K
      try simp only [Act.put, List.setIfInBounds_toArray]
      replace ff := ff.kept kn
      replace sN := sN.kept kn
      clear kn
      refine wpAnyH_ready (rs := [6]) (by kernel_rfl) (by simp) ?_
      refine AllReadyH.cons rfl (fun K hK => ?_) AllReadyH.nil
      go_simp
      refine (ttr_any (hT.kept (k1.then (((Only.refl _ w1).drew).then (hHeld)))) sN.m hS _ _ _ _ hk3 ha).mono ?_
      rintro e wn ⟨rfl, kT⟩
      rw [tr_off]
      go_simp
      refine hK.out _ _ (hHeld.then kT) (fun hHeld => ?_)
      clear hK K
      try simp only [Act.put, List.setIfInBounds_toArray, List.set_cons_zero, List.set_cons_succ]
      replace ff := ff.kept kT
      replace fe := fe.kept kT
      clear kT
      refine wpAnyH_take (i := 7) (v := ?_) rfl (by kernel_rfl) (by kernel_rfl) (by kernel_rfl) (fun _ _ _ h => h) (Or.inl ⟨by rfl, ?_⟩) hHeld ?_
      rotate_left
      · intro w2 hSw
        go_simp
        all_goals rfl
      try simp only [Act.put, List.getElem_toArray, List.getElem_cons_zero, List.getElem_cons_succ, List.setIfInBounds_toArray, List.set_cons_zero, List.set_cons_succ]
      refine wpAnyH_take (i := 8) (v := ?_) rfl (by kernel_rfl) (by kernel_rfl) (by kernel_rfl) (fun _ _ _ h => h) (Or.inl ⟨by rfl, ?_⟩) hHeld ?_
      rotate_left
      · intro w2 hSw
        go_simp
        all_goals rfl
      try simp only [Act.put, List.getElem_toArray, List.getElem_cons_zero, List.getElem_cons_succ, List.setIfInBounds_toArray, List.set_cons_zero, List.set_cons_succ]
      refine wpAnyH_take (i := 9) (v := ?_) rfl (by kernel_rfl) (by kernel_rfl) (by kernel_rfl) (fun _ _ _ h => h) (Or.inl ⟨by rfl, ?_⟩) hHeld ?_
      rotate_left
      · intro w2 hSw
        go_simp
        all_goals rfl
      try simp only [Act.put, List.getElem_toArray, List.getElem_cons_zero, List.getElem_cons_succ, List.setIfInBounds_toArray, List.set_cons_zero, List.set_cons_succ]
      refine wpAnyH_take (i := 10) (v := ?_) rfl (by kernel_rfl) (by kernel_rfl) (by kernel_rfl) (fun _ _ _ h => h) (Or.inl ⟨by rfl, ?_⟩) hHeld ?_
      rotate_left
      · intro w2 hSw
        go_simp
        all_goals rfl
      try simp only [Act.put, List.getElem_toArray, List.getElem_cons_zero, List.getElem_cons_succ, List.setIfInBounds_toArray, List.set_cons_zero, List.set_cons_succ]
      refine wpAnyH_take (i := 11) (v := ?_) rfl (by kernel_rfl) (by kernel_rfl) (by kernel_rfl) (fun _ _ _ h => h) (Or.inl ⟨by rfl, ?_⟩) hHeld ?_
      rotate_left
      · intro w2 hSw
        go_simp
        all_goals rfl
      try simp only [Act.put, List.getElem_toArray, List.getElem_cons_zero, List.getElem_cons_succ, List.setIfInBounds_toArray, List.set_cons_zero, List.set_cons_succ]
      refine wpAnyH_take (i := 14) (v := ?_) rfl (by kernel_rfl) (by kernel_rfl) (by kernel_rfl) (fun _ _ _ h => h) (Or.inl ⟨by rfl, ?_⟩) hHeld ?_
      rotate_left
      · intro w2 hSw
        go_simp
        all_goals rfl
      try simp only [Act.put, List.getElem_toArray, List.getElem_cons_zero, List.getElem_cons_succ, List.setIfInBounds_toArray, List.set_cons_zero, List.set_cons_succ]
      refine wpAnyH_ready (rs := [15]) (by kernel_rfl) (by simp) ?_
      refine AllReadyH.cons rfl (fun K hK => ?_) AllReadyH.nil
      rw [if_pos (by rfl)]
      refine wp_store_go _ _ _ rfl eb (entA (offE at_)).toArray rfl rfl fe (ent_size' _) ((ent_len _).trans (ent_len _).symm) (ent_ones' _) ?_
      intro wn on fen
      have hH := hHeld.new on fun i hi => by omega
      replace ff := ff.past on (by omega)
      refine hK.out _ _ hH (fun hHeld => ?_)
      clear hK K hH on fe
      try simp only [Act.put, List.setIfInBounds_toArray]
      refine wpAnyH_ready (rs := [16]) (by kernel_rfl) (by simp) ?_
      refine AllReadyH.cons rfl (fun K hK => ?_) AllReadyH.nil
      rw [if_pos (by rfl)]
      refine wp_store_go _ _ _ rfl fb (fltA fltNone).toArray rfl rfl ff (flt_size' _) ((flt_len _).trans (flt_len _).symm) (flt_ones' _) ?_
      intro wn on ffn
      have hH := hHeld.new on fun i hi => by omega
      replace fen := fen.past on (by omega)
      refine hK.out _ _ hH (fun hHeld => ?_)
      clear hK K hH on ff
      try simp only [Act.put]
      refine wpAnyH_take (i := 17) (v := ?_) rfl (by kernel_rfl) (by kernel_rfl) (by kernel_rfl) (fun _ _ _ h => h) (Or.inl ⟨by rfl, ?_⟩) hHeld ?_
      rotate_left
      · intro w2 hSw
        go_simp
        all_goals rfl
      try simp only [Act.put, List.getElem_toArray, List.getElem_cons_zero, List.getElem_cons_succ, List.setIfInBounds_toArray, List.set_cons_zero, List.set_cons_succ]
      refine wpAnyH_done (by kernel_rfl) ?_ _
      go_wp2_with fail
      go_meet
      exact ⟨eb, fb, rfl, rfl, rfl, rfl, ((Only.refl _ w1).drew).then hHeld, fen, ffn⟩
    refine AllReadyH.cons rfl (fun K hK => ?_) AllReadyH.nil
    have qff := Blk.lt ff
    rw [if_pos (by rfl)]
    refine wp_alloc_go _ rfl _ ent_zero' ?_
    intro eb wn neb kn meb fe
    have leb := hHeld.size
    rw [neb] at leb
    refine hK.out _ _ (hHeld.then kn) (fun hHeld => ?_)
    clear hK K
    try simp only [Act.put]
    replace ff := ff.kept kn
    clear kn
    refine wpAnyH_ready (rs := [0]) (by kernel_rfl) (by simp) ?_
    refine AllReadyH.cons rfl (fun K hK => ?_) AllReadyH.nil
    go_simp
    refine (new_from (Only.refl _ _)).mono ?_
    rintro e wn ⟨p, q, rfl, sN⟩
    have kN := sN.k
    go_simp
    refine hK.out _ _ (hHeld.then kN) (fun hHeld => ?_)
    clear hK K
    try simp only [Act.put, List.setIfInBounds_toArray, List.set_cons_zero, List.set_cons_succ]
    replace ff := ff.kept kN
    replace fe := fe.kept kN
    refine wpAnyH_ready (rs := [6]) (by kernel_rfl) (by simp) ?_
    refine AllReadyH.cons rfl (fun K hK => ?_) AllReadyH.nil
    go_simp
    refine (ttr_any (hT.kept (k1.then (((Only.refl _ w1).drew).then (hHeld)))) sN.m hS _ _ _ _ hk3 ha).mono ?_
    rintro e wn ⟨rfl, kT⟩
    rw [tr_off]
    go_simp
    refine hK.out _ _ (hHeld.then kT) (fun hHeld => ?_)
    clear hK K
    try simp only [Act.put, List.setIfInBounds_toArray, List.set_cons_zero, List.set_cons_succ]
    replace ff := ff.kept kT
    replace fe := fe.kept kT
    clear kT
    refine wpAnyH_take (i := 7) (v := ?_) rfl (by kernel_rfl) (by kernel_rfl) (by kernel_rfl) (fun _ _ _ h => h) (Or.inl ⟨by rfl, ?_⟩) hHeld ?_
    rotate_left
    · intro w2 hSw
      go_simp
      all_goals rfl
    try simp only [Act.put, List.getElem_toArray, List.getElem_cons_zero, List.getElem_cons_succ, List.setIfInBounds_toArray, List.set_cons_zero, List.set_cons_succ]
    refine wpAnyH_take (i := 8) (v := ?_) rfl (by kernel_rfl) (by kernel_rfl) (by kernel_rfl) (fun _ _ _ h => h) (Or.inl ⟨by rfl, ?_⟩) hHeld ?_
    rotate_left
    · intro w2 hSw
      go_simp
      all_goals rfl
    try simp only [Act.put, List.getElem_toArray, List.getElem_cons_zero, List.getElem_cons_succ, List.setIfInBounds_toArray, List.set_cons_zero, List.set_cons_succ]
    refine wpAnyH_take (i := 9) (v := ?_) rfl (by kernel_rfl) (by kernel_rfl) (by kernel_rfl) (fun _ _ _ h => h) (Or.inl ⟨by rfl, ?_⟩) hHeld ?_
    rotate_left
    · intro w2 hSw
      go_simp
      all_goals rfl
    try simp only [Act.put, List.getElem_toArray, List.getElem_cons_zero, List.getElem_cons_succ, List.setIfInBounds_toArray, List.set_cons_zero, List.set_cons_succ]
    refine wpAnyH_take (i := 10) (v := ?_) rfl (by kernel_rfl) (by kernel_rfl) (by kernel_rfl) (fun _ _ _ h => h) (Or.inl ⟨by rfl, ?_⟩) hHeld ?_
    rotate_left
    · intro w2 hSw
      go_simp
      all_goals rfl
    try simp only [Act.put, List.getElem_toArray, List.getElem_cons_zero, List.getElem_cons_succ, List.setIfInBounds_toArray, List.set_cons_zero, List.set_cons_succ]
    refine wpAnyH_take (i := 11) (v := ?_) rfl (by kernel_rfl) (by kernel_rfl) (by kernel_rfl) (fun _ _ _ h => h) (Or.inl ⟨by rfl, ?_⟩) hHeld ?_
    rotate_left
    · intro w2 hSw
      go_simp
      all_goals rfl
    try simp only [Act.put, List.getElem_toArray, List.getElem_cons_zero, List.getElem_cons_succ, List.setIfInBounds_toArray, List.set_cons_zero, List.set_cons_succ]
    refine wpAnyH_take (i := 14) (v := ?_) rfl (by kernel_rfl) (by kernel_rfl) (by kernel_rfl) (fun _ _ _ h => h) (Or.inl ⟨by rfl, ?_⟩) hHeld ?_
    rotate_left
    · intro w2 hSw
      go_simp
      all_goals rfl
    try simp only [Act.put, List.getElem_toArray, List.getElem_cons_zero, List.getElem_cons_succ, List.setIfInBounds_toArray, List.set_cons_zero, List.set_cons_succ]
    refine wpAnyH_ready (rs := [15]) (by kernel_rfl) (by simp) ?_
    refine AllReadyH.cons rfl (fun K hK => ?_) AllReadyH.nil
    rw [if_pos (by rfl)]
    refine wp_store_go _ _ _ rfl eb (entA (offE at_)).toArray rfl rfl fe (ent_size' _) ((ent_len _).trans (ent_len _).symm) (ent_ones' _) ?_
    intro wn on fen
    have hH := hHeld.new on fun i hi => by omega
    replace ff := ff.past on (by omega)
    refine hK.out _ _ hH (fun hHeld => ?_)
    clear hK K hH on fe
    try simp only [Act.put, List.setIfInBounds_toArray]
    refine wpAnyH_ready (rs := [16]) (by kernel_rfl) (by simp) ?_
    refine AllReadyH.cons rfl (fun K hK => ?_) AllReadyH.nil
    rw [if_pos (by rfl)]
    refine wp_store_go _ _ _ rfl fb (fltA fltNone).toArray rfl rfl ff (flt_size' _) ((flt_len _).trans (flt_len _).symm) (flt_ones' _) ?_
    intro wn on ffn
    have hH := hHeld.new on fun i hi => by omega
    replace fen := fen.past on (by omega)
    refine hK.out _ _ hH (fun hHeld => ?_)
    clear hK K hH on ff
    try simp only [Act.put]
    refine wpAnyH_take (i := 17) (v := ?_) rfl (by kernel_rfl) (by kernel_rfl) (by kernel_rfl) (fun _ _ _ h => h) (Or.inl ⟨by rfl, ?_⟩) hHeld ?_
    rotate_left
    · intro w2 hSw
      go_simp
      all_goals rfl
    try simp only [Act.put, List.getElem_toArray, List.getElem_cons_zero, List.getElem_cons_succ, List.setIfInBounds_toArray, List.set_cons_zero, List.set_cons_succ]
    refine wpAnyH_done (by kernel_rfl) ?_ _
    go_wp2_with fail
    go_meet
    exact ⟨eb, fb, rfl, rfl, rfl, rfl, ((Only.refl _ w1).drew).then hHeld, fen, ffn⟩
  case rest =>
    obtain ⟨eb, fb, rfl, rfl, rfl, rfl, k2, e2, f2⟩ := hcut
    have h2 := st_kept h1 k2
    have kx := k1.then k2
    clear h1 k1 k2
    have c3 : _ = some (Value.int .i64 0) := e2.cell 3
    have c4 : _ = some (Value.int .i64 0) := e2.cell 4
    have c5 : _ = some (Value.int .i64 (if at_ < 65536 then at_ / 256 else 0)) := e2.cell 5
    have c6 : _ = some (Value.int .i64 255) := e2.cell 6
    have c7 : _ = some (Value.int .i64 255) := e2.cell 7
    have c8 : _ = some (Value.int .i64 (if at_ < 65536 then at_ / 256 else 0)) := e2.cell 8
    have hq := eq_flt fltNone
    have hr := eq_ask ⟨false, false, false, false, 0, 0, 0, 0⟩
    generalize (if at_ < 65536 then at_ / 256 else 0) = pg at c5 c8
    clear e2 ek ew
    go_wp2_with (first | (refine wpList_load_blk (by rfl) 38 _ rfl fb rfl f2 _ Tryd.underlying38 rfl (flt_size' _) ?_) | (refine wpList_built_is (by rfl) 38 _ rfl (fltA fltNone).toArray (by kernel_rfl) ?_) | (refine wpList_load_is (by rfl) 27 _ rfl rfl h2 _ Tryd.underlying27 rfl st_size ?_) | (go_at_call 17; refine (task_any (hT.kept kx) hS 3 false).mono ?_; rintro e w7 ⟨rfl, k7⟩; rw [ask_off]) | (refine wpList_built_is (by rfl) 46 _ rfl (askA ⟨false, false, false, false, 0, 0, 0, 0⟩) (by kernel_rfl) ?_))
    go_ret
    exact ⟨rfl, kx.then k7⟩
end Go.Proofs.YtpplclenokfpeaaDoor
