/-
  What must be walked anew by an instruction, as the document's own call answers (Do of the reference): where all goes.
-/
import Derived.Test.YtpfblbleendpiaaDoorRefFenDo2
namespace Go.Proofs.YtpfblbleendpiaaDoor
open Go.RowKit
def none16 : List Value := flatE (List.replicate 16 entNone)
theorem none_len : none16.length = 144 := by unfold none16; rw [flat_len, List.length_replicate]
section
variable {w : World} {b : Nat} {T : Nat → EntM} {S : StM}
theorem there16 (ht : TlAt w b T) : w.there b 0 none16.toArray.size := fun j hj => by
  have hj' : j < 144 := by simpa [none_len] using hj
  have h := ht.there (i := j / 9) (by omega) (j % 9) (by omega)
  rw [show j / 9 * 9 + j % 9 = 0 + j by omega] at h
  exact h
theorem tl_none (ht : TlAt w b T) : TlAt (w.setCells b 0 none16.toArray.toList) b noneT := by
  have g := only_cells b none16.toArray.toList 0 w
  refine ⟨Nat.lt_of_lt_of_le ht.lt g.size, fun i hi j v hv => ?_, fun j hj => ?_⟩
  · have hj : j < 9 := by
      have := (List.getElem?_eq_some_iff.1 hv).1
      rwa [ent9] at this
    have h := World.rangeAt_setCells_same w b 0 none16.toArray.toList (by have := there16 ht; simpa using this) (i * 9 + j) v
    rw [Nat.zero_add] at h
    refine h ?_
    show none16[i * 9 + j]? = some v
    unfold none16
    rw [flat_at _ i (by rw [List.length_replicate]; exact hi) j hj, List.getElem_replicate]
    exact hv
  · rw [World.frozen?_setCells]; exact ht.free j hj
theorem ents_size' : (Tryd.prog.info? 50).map (·.size) = some none16.toArray.size := by
  rw [show none16.toArray.size = 144 from none_len]
  kernel_rfl
theorem none_ones : none16.toArray.all (·.oneCell') = true := Array.all_eq_true_iff_forall_mem.2 fun v hv => flat_ones _ v (by simpa [none16] using hv)
set_option maxRecDepth 10000 in
set_option maxHeartbeats 16000000 in
theorem rdo_flush_f0 (ht : TlAt w b T) (hS : S.Ok) (op rd rs1 rs2 imm csr : Int) (n3 : (op == 63) = false) (n4 : (op == 64) = false) (n5 : (op == 65) = false) (hlo : ¬ op < 54) (hhi : op ≤ 59) (hw : wrB14 op rs1 imm = true) (hv : S.v = false) (m1 : (csr == 384) = true) :
    Calls Tryd.prog 13 #[.pointer (some ⟨b, 0, none⟩), .agg (rowOf 65 (stF S)), .agg (inA op rd rs1 rs2 imm csr)] w fun r w' => r = .returned (.int .i64 (allT T).length) ∧ TlAt w' b noneT ∧ Only (fun i => i = b) w w' := by
  have n65 : ¬ op = 65 := beq_eq_false_iff_ne.1 n5
  obtain ⟨A, hA⟩ : ∃ A, aD S op rs1 = A := ⟨_, rfl⟩
  obtain ⟨B, hB⟩ : ∃ B, bD S rs2 = B := ⟨_, rfl⟩
  have s0 := st_new w S
  have n1 : (w.alloc (.cells (rowOf 65 (stF S)) 27)).heap.size = w.heap.size + 1 := Go.Deep.nblk_alloc _ _
  have i0 := alloc_last (w.alloc (.cells (rowOf 65 (stF S)) 27)) (inA op rd rs1 rs2 imm csr) 29
  rw [n1] at i0
  have s1 : StAt ((w.alloc (.cells (rowOf 65 (stF S)) 27)).alloc (.cells (inA op rd rs1 rs2 imm csr) 29)) w.heap.size S := World.rowIs.of_block s0 (((Only.refl (fun _ => False) (w.alloc (.cells (rowOf 65 (stF S)) 27))).alloc _).same _ (World.rowIs.lt s0) id)
  have kb : Kept w ((w.alloc (.cells (rowOf 65 (stF S)) 27)).alloc (.cells (inA op rd rs1 rs2 imm csr) 29)) := ((Only.refl _ w).alloc _).alloc _
  clear s0 n1
  go_enter Tryd.func13, Tryd.ntmps13
  go_upto_region 2 with fail
  generalize ((w.alloc (.cells (rowOf 65 (stF S)) 27)).alloc (.cells (inA op rd rs1 rs2 imm csr) 29)) = w1 at i0 s1 kb ⊢
  have c0 : _ = some (Value.int .i64 op) := Blk.cell i0 0
  have c2 : _ = some (Value.int .i64 rs1) := Blk.cell i0 2
  have c3 : _ = some (Value.int .i64 rs2) := Blk.cell i0 3
  have cv := st_v s1
  have c5 : _ = some (Value.int .i64 csr) := Blk.cell i0 5
  by_cases p0 : 0 < rs1
  · by_cases p1 : rs1 < 32
    · obtain ⟨R, rfl⟩ := Int.eq_ofNat_of_zero_le (show 0 ≤ rs1 by omega)
      have cx := st_x s1 (i := R) (by omega)
      have u0 := (hS.X R (by omega)).1
      have e8 : bits .and .u64 (S.X R / 256) 255 = S.X R / 256 % 256 := u_low (S.X R / 256) 8 (by omega) 255 rfl
      have l0 : 0 ≤ S.X R / 256 % 256 := by omega
      have l1 : S.X R / 256 % 256 < 256 := by omega
      have haA : A = S.X R / 256 % 256 := by rw [← hA]; unfold aD; rw [if_pos ⟨p0, p1⟩, if_neg n65, Int.toNat_natCast]
      subst haA
      clear hA
      by_cases o0 : 0 < rs2
      · by_cases o1 : rs2 < 32
        · obtain ⟨R2, rfl⟩ := Int.eq_ofNat_of_zero_le (show 0 ≤ rs2 by omega)
          have dx := st_x s1 (i := R2) (by omega)
          have u1 := (hS.X R2 (by omega)).1
          have f8 : bits .and .u64 (S.X R2) 255 = S.X R2 % 256 := u_low (S.X R2) 8 (by omega) 255 rfl
          have m0 : 0 ≤ S.X R2 % 256 := by omega
          have m1 : S.X R2 % 256 < 256 := by omega
          have haB : B = S.X R2 % 256 := by rw [← hB]; unfold bD; rw [if_pos ⟨o0, o1⟩, Int.toNat_natCast]
          subst haB
          clear hB
          rw [hv] at cv
          go_wp2_with (first | (refine wpList_load_blk (by rfl) 29 _ rfl (w.heap.size + 1) rfl i0 _ Tryd.underlying29 rfl (ins_size' _ _ _ _ _ _) ?_) | (go_at_call 29; refine (rwrites14 _ _ _ _ _ _ _).mono ?_; rintro r w2 ⟨rfl, k2⟩; rw [hw]; have kx := kb.then k2; have s2 : StAt w2 w.heap.size S := World.rowIs.of_block s1 (k2.same _ (World.rowIs.lt s1) id); have i2 := Blk.kept i0 k2; have cv2 := st_v s2; rw [hv] at cv2; have d5 : _ = some (Value.int .i64 csr) := Blk.cell i2 5))
          refine (rtall_any (ht.kept kx)).mono ?_
          rintro r w3 ⟨v, rfl, hown, k3⟩
          obtain ⟨q, cp, rfl⟩ := hown.form
          have ky := kx.then k3
          have hT3 := ht.kept ky
          have hln := all_len T 16 0
          go_wp2_with (first | (refine wpList_built_is (by rfl) 50 #[] rfl none16.toArray (by kernel_rfl) ?_) | (refine wpList_store_mid rfl _ _ _ rfl b 0 none16.toArray rfl rfl (there16 hT3) ents_size' none_ones ?_))
          go_ret
          exact ⟨rfl, tl_none hT3, Kept.then ky (only_cells b none16.toArray.toList 0 _)⟩
        · have haB : B = -1 := by rw [← hB]; unfold bD; rw [if_neg (fun x => o1 x.2)]
          subst haB
          clear hB
          rw [hv] at cv
          go_wp2_with (first | (refine wpList_load_blk (by rfl) 29 _ rfl (w.heap.size + 1) rfl i0 _ Tryd.underlying29 rfl (ins_size' _ _ _ _ _ _) ?_) | (go_at_call 29; refine (rwrites14 _ _ _ _ _ _ _).mono ?_; rintro r w2 ⟨rfl, k2⟩; rw [hw]; have kx := kb.then k2; have s2 : StAt w2 w.heap.size S := World.rowIs.of_block s1 (k2.same _ (World.rowIs.lt s1) id); have i2 := Blk.kept i0 k2; have cv2 := st_v s2; rw [hv] at cv2; have d5 : _ = some (Value.int .i64 csr) := Blk.cell i2 5))
          refine (rtall_any (ht.kept kx)).mono ?_
          rintro r w3 ⟨v, rfl, hown, k3⟩
          obtain ⟨q, cp, rfl⟩ := hown.form
          have ky := kx.then k3
          have hT3 := ht.kept ky
          have hln := all_len T 16 0
          go_wp2_with (first | (refine wpList_built_is (by rfl) 50 #[] rfl none16.toArray (by kernel_rfl) ?_) | (refine wpList_store_mid rfl _ _ _ rfl b 0 none16.toArray rfl rfl (there16 hT3) ents_size' none_ones ?_))
          go_ret
          exact ⟨rfl, tl_none hT3, Kept.then ky (only_cells b none16.toArray.toList 0 _)⟩
      · have haB : B = -1 := by rw [← hB]; unfold bD; rw [if_neg (fun x => o0 x.1)]
        subst haB
        clear hB
        rw [hv] at cv
        go_wp2_with (first | (refine wpList_load_blk (by rfl) 29 _ rfl (w.heap.size + 1) rfl i0 _ Tryd.underlying29 rfl (ins_size' _ _ _ _ _ _) ?_) | (go_at_call 29; refine (rwrites14 _ _ _ _ _ _ _).mono ?_; rintro r w2 ⟨rfl, k2⟩; rw [hw]; have kx := kb.then k2; have s2 : StAt w2 w.heap.size S := World.rowIs.of_block s1 (k2.same _ (World.rowIs.lt s1) id); have i2 := Blk.kept i0 k2; have cv2 := st_v s2; rw [hv] at cv2; have d5 : _ = some (Value.int .i64 csr) := Blk.cell i2 5))
        refine (rtall_any (ht.kept kx)).mono ?_
        rintro r w3 ⟨v, rfl, hown, k3⟩
        obtain ⟨q, cp, rfl⟩ := hown.form
        have ky := kx.then k3
        have hT3 := ht.kept ky
        have hln := all_len T 16 0
        go_wp2_with (first | (refine wpList_built_is (by rfl) 50 #[] rfl none16.toArray (by kernel_rfl) ?_) | (refine wpList_store_mid rfl _ _ _ rfl b 0 none16.toArray rfl rfl (there16 hT3) ents_size' none_ones ?_))
        go_ret
        exact ⟨rfl, tl_none hT3, Kept.then ky (only_cells b none16.toArray.toList 0 _)⟩
    · have haA : A = -1 := by rw [← hA]; unfold aD; rw [if_neg (fun x => p1 x.2)]
      subst haA
      clear hA
      by_cases o0 : 0 < rs2
      · by_cases o1 : rs2 < 32
        · obtain ⟨R2, rfl⟩ := Int.eq_ofNat_of_zero_le (show 0 ≤ rs2 by omega)
          have dx := st_x s1 (i := R2) (by omega)
          have u1 := (hS.X R2 (by omega)).1
          have f8 : bits .and .u64 (S.X R2) 255 = S.X R2 % 256 := u_low (S.X R2) 8 (by omega) 255 rfl
          have m0 : 0 ≤ S.X R2 % 256 := by omega
          have m1 : S.X R2 % 256 < 256 := by omega
          have haB : B = S.X R2 % 256 := by rw [← hB]; unfold bD; rw [if_pos ⟨o0, o1⟩, Int.toNat_natCast]
          subst haB
          clear hB
          rw [hv] at cv
          go_wp2_with (first | (refine wpList_load_blk (by rfl) 29 _ rfl (w.heap.size + 1) rfl i0 _ Tryd.underlying29 rfl (ins_size' _ _ _ _ _ _) ?_) | (go_at_call 29; refine (rwrites14 _ _ _ _ _ _ _).mono ?_; rintro r w2 ⟨rfl, k2⟩; rw [hw]; have kx := kb.then k2; have s2 : StAt w2 w.heap.size S := World.rowIs.of_block s1 (k2.same _ (World.rowIs.lt s1) id); have i2 := Blk.kept i0 k2; have cv2 := st_v s2; rw [hv] at cv2; have d5 : _ = some (Value.int .i64 csr) := Blk.cell i2 5))
          refine (rtall_any (ht.kept kx)).mono ?_
          rintro r w3 ⟨v, rfl, hown, k3⟩
          obtain ⟨q, cp, rfl⟩ := hown.form
          have ky := kx.then k3
          have hT3 := ht.kept ky
          have hln := all_len T 16 0
          go_wp2_with (first | (refine wpList_built_is (by rfl) 50 #[] rfl none16.toArray (by kernel_rfl) ?_) | (refine wpList_store_mid rfl _ _ _ rfl b 0 none16.toArray rfl rfl (there16 hT3) ents_size' none_ones ?_))
          go_ret
          exact ⟨rfl, tl_none hT3, Kept.then ky (only_cells b none16.toArray.toList 0 _)⟩
        · have haB : B = -1 := by rw [← hB]; unfold bD; rw [if_neg (fun x => o1 x.2)]
          subst haB
          clear hB
          rw [hv] at cv
          go_wp2_with (first | (refine wpList_load_blk (by rfl) 29 _ rfl (w.heap.size + 1) rfl i0 _ Tryd.underlying29 rfl (ins_size' _ _ _ _ _ _) ?_) | (go_at_call 29; refine (rwrites14 _ _ _ _ _ _ _).mono ?_; rintro r w2 ⟨rfl, k2⟩; rw [hw]; have kx := kb.then k2; have s2 : StAt w2 w.heap.size S := World.rowIs.of_block s1 (k2.same _ (World.rowIs.lt s1) id); have i2 := Blk.kept i0 k2; have cv2 := st_v s2; rw [hv] at cv2; have d5 : _ = some (Value.int .i64 csr) := Blk.cell i2 5))
          refine (rtall_any (ht.kept kx)).mono ?_
          rintro r w3 ⟨v, rfl, hown, k3⟩
          obtain ⟨q, cp, rfl⟩ := hown.form
          have ky := kx.then k3
          have hT3 := ht.kept ky
          have hln := all_len T 16 0
          go_wp2_with (first | (refine wpList_built_is (by rfl) 50 #[] rfl none16.toArray (by kernel_rfl) ?_) | (refine wpList_store_mid rfl _ _ _ rfl b 0 none16.toArray rfl rfl (there16 hT3) ents_size' none_ones ?_))
          go_ret
          exact ⟨rfl, tl_none hT3, Kept.then ky (only_cells b none16.toArray.toList 0 _)⟩
      · have haB : B = -1 := by rw [← hB]; unfold bD; rw [if_neg (fun x => o0 x.1)]
        subst haB
        clear hB
        rw [hv] at cv
        go_wp2_with (first | (refine wpList_load_blk (by rfl) 29 _ rfl (w.heap.size + 1) rfl i0 _ Tryd.underlying29 rfl (ins_size' _ _ _ _ _ _) ?_) | (go_at_call 29; refine (rwrites14 _ _ _ _ _ _ _).mono ?_; rintro r w2 ⟨rfl, k2⟩; rw [hw]; have kx := kb.then k2; have s2 : StAt w2 w.heap.size S := World.rowIs.of_block s1 (k2.same _ (World.rowIs.lt s1) id); have i2 := Blk.kept i0 k2; have cv2 := st_v s2; rw [hv] at cv2; have d5 : _ = some (Value.int .i64 csr) := Blk.cell i2 5))
        refine (rtall_any (ht.kept kx)).mono ?_
        rintro r w3 ⟨v, rfl, hown, k3⟩
        obtain ⟨q, cp, rfl⟩ := hown.form
        have ky := kx.then k3
        have hT3 := ht.kept ky
        have hln := all_len T 16 0
        go_wp2_with (first | (refine wpList_built_is (by rfl) 50 #[] rfl none16.toArray (by kernel_rfl) ?_) | (refine wpList_store_mid rfl _ _ _ rfl b 0 none16.toArray rfl rfl (there16 hT3) ents_size' none_ones ?_))
        go_ret
        exact ⟨rfl, tl_none hT3, Kept.then ky (only_cells b none16.toArray.toList 0 _)⟩
  · have haA : A = -1 := by rw [← hA]; unfold aD; rw [if_neg (fun x => p0 x.1)]
    subst haA
    clear hA
    by_cases o0 : 0 < rs2
    · by_cases o1 : rs2 < 32
      · obtain ⟨R2, rfl⟩ := Int.eq_ofNat_of_zero_le (show 0 ≤ rs2 by omega)
        have dx := st_x s1 (i := R2) (by omega)
        have u1 := (hS.X R2 (by omega)).1
        have f8 : bits .and .u64 (S.X R2) 255 = S.X R2 % 256 := u_low (S.X R2) 8 (by omega) 255 rfl
        have m0 : 0 ≤ S.X R2 % 256 := by omega
        have m1 : S.X R2 % 256 < 256 := by omega
        have haB : B = S.X R2 % 256 := by rw [← hB]; unfold bD; rw [if_pos ⟨o0, o1⟩, Int.toNat_natCast]
        subst haB
        clear hB
        rw [hv] at cv
        go_wp2_with (first | (refine wpList_load_blk (by rfl) 29 _ rfl (w.heap.size + 1) rfl i0 _ Tryd.underlying29 rfl (ins_size' _ _ _ _ _ _) ?_) | (go_at_call 29; refine (rwrites14 _ _ _ _ _ _ _).mono ?_; rintro r w2 ⟨rfl, k2⟩; rw [hw]; have kx := kb.then k2; have s2 : StAt w2 w.heap.size S := World.rowIs.of_block s1 (k2.same _ (World.rowIs.lt s1) id); have i2 := Blk.kept i0 k2; have cv2 := st_v s2; rw [hv] at cv2; have d5 : _ = some (Value.int .i64 csr) := Blk.cell i2 5))
        refine (rtall_any (ht.kept kx)).mono ?_
        rintro r w3 ⟨v, rfl, hown, k3⟩
        obtain ⟨q, cp, rfl⟩ := hown.form
        have ky := kx.then k3
        have hT3 := ht.kept ky
        have hln := all_len T 16 0
        go_wp2_with (first | (refine wpList_built_is (by rfl) 50 #[] rfl none16.toArray (by kernel_rfl) ?_) | (refine wpList_store_mid rfl _ _ _ rfl b 0 none16.toArray rfl rfl (there16 hT3) ents_size' none_ones ?_))
        go_ret
        exact ⟨rfl, tl_none hT3, Kept.then ky (only_cells b none16.toArray.toList 0 _)⟩
      · have haB : B = -1 := by rw [← hB]; unfold bD; rw [if_neg (fun x => o1 x.2)]
        subst haB
        clear hB
        rw [hv] at cv
        go_wp2_with (first | (refine wpList_load_blk (by rfl) 29 _ rfl (w.heap.size + 1) rfl i0 _ Tryd.underlying29 rfl (ins_size' _ _ _ _ _ _) ?_) | (go_at_call 29; refine (rwrites14 _ _ _ _ _ _ _).mono ?_; rintro r w2 ⟨rfl, k2⟩; rw [hw]; have kx := kb.then k2; have s2 : StAt w2 w.heap.size S := World.rowIs.of_block s1 (k2.same _ (World.rowIs.lt s1) id); have i2 := Blk.kept i0 k2; have cv2 := st_v s2; rw [hv] at cv2; have d5 : _ = some (Value.int .i64 csr) := Blk.cell i2 5))
        refine (rtall_any (ht.kept kx)).mono ?_
        rintro r w3 ⟨v, rfl, hown, k3⟩
        obtain ⟨q, cp, rfl⟩ := hown.form
        have ky := kx.then k3
        have hT3 := ht.kept ky
        have hln := all_len T 16 0
        go_wp2_with (first | (refine wpList_built_is (by rfl) 50 #[] rfl none16.toArray (by kernel_rfl) ?_) | (refine wpList_store_mid rfl _ _ _ rfl b 0 none16.toArray rfl rfl (there16 hT3) ents_size' none_ones ?_))
        go_ret
        exact ⟨rfl, tl_none hT3, Kept.then ky (only_cells b none16.toArray.toList 0 _)⟩
    · have haB : B = -1 := by rw [← hB]; unfold bD; rw [if_neg (fun x => o0 x.1)]
      subst haB
      clear hB
      rw [hv] at cv
      go_wp2_with (first | (refine wpList_load_blk (by rfl) 29 _ rfl (w.heap.size + 1) rfl i0 _ Tryd.underlying29 rfl (ins_size' _ _ _ _ _ _) ?_) | (go_at_call 29; refine (rwrites14 _ _ _ _ _ _ _).mono ?_; rintro r w2 ⟨rfl, k2⟩; rw [hw]; have kx := kb.then k2; have s2 : StAt w2 w.heap.size S := World.rowIs.of_block s1 (k2.same _ (World.rowIs.lt s1) id); have i2 := Blk.kept i0 k2; have cv2 := st_v s2; rw [hv] at cv2; have d5 : _ = some (Value.int .i64 csr) := Blk.cell i2 5))
      refine (rtall_any (ht.kept kx)).mono ?_
      rintro r w3 ⟨v, rfl, hown, k3⟩
      obtain ⟨q, cp, rfl⟩ := hown.form
      have ky := kx.then k3
      have hT3 := ht.kept ky
      have hln := all_len T 16 0
      go_wp2_with (first | (refine wpList_built_is (by rfl) 50 #[] rfl none16.toArray (by kernel_rfl) ?_) | (refine wpList_store_mid rfl _ _ _ rfl b 0 none16.toArray rfl rfl (there16 hT3) ents_size' none_ones ?_))
      go_ret
      exact ⟨rfl, tl_none hT3, Kept.then ky (only_cells b none16.toArray.toList 0 _)⟩
set_option maxRecDepth 10000 in
set_option maxHeartbeats 16000000 in
theorem rdo_flush_f1 (ht : TlAt w b T) (hS : S.Ok) (op rd rs1 rs2 imm csr : Int) (n3 : (op == 63) = false) (n4 : (op == 64) = false) (n5 : (op == 65) = false) (hlo : ¬ op < 54) (hhi : op ≤ 59) (hw : wrB14 op rs1 imm = true) (hv : S.v = false) (m1 : (csr == 384) = false) (m2 : (csr == 640) = true) :
    Calls Tryd.prog 13 #[.pointer (some ⟨b, 0, none⟩), .agg (rowOf 65 (stF S)), .agg (inA op rd rs1 rs2 imm csr)] w fun r w' => r = .returned (.int .i64 (allT T).length) ∧ TlAt w' b noneT ∧ Only (fun i => i = b) w w' := by
  have n65 : ¬ op = 65 := beq_eq_false_iff_ne.1 n5
  obtain ⟨A, hA⟩ : ∃ A, aD S op rs1 = A := ⟨_, rfl⟩
  obtain ⟨B, hB⟩ : ∃ B, bD S rs2 = B := ⟨_, rfl⟩
  have s0 := st_new w S
  have n1 : (w.alloc (.cells (rowOf 65 (stF S)) 27)).heap.size = w.heap.size + 1 := Go.Deep.nblk_alloc _ _
  have i0 := alloc_last (w.alloc (.cells (rowOf 65 (stF S)) 27)) (inA op rd rs1 rs2 imm csr) 29
  rw [n1] at i0
  have s1 : StAt ((w.alloc (.cells (rowOf 65 (stF S)) 27)).alloc (.cells (inA op rd rs1 rs2 imm csr) 29)) w.heap.size S := World.rowIs.of_block s0 (((Only.refl (fun _ => False) (w.alloc (.cells (rowOf 65 (stF S)) 27))).alloc _).same _ (World.rowIs.lt s0) id)
  have kb : Kept w ((w.alloc (.cells (rowOf 65 (stF S)) 27)).alloc (.cells (inA op rd rs1 rs2 imm csr) 29)) := ((Only.refl _ w).alloc _).alloc _
  clear s0 n1
  go_enter Tryd.func13, Tryd.ntmps13
  go_upto_region 2 with fail
  generalize ((w.alloc (.cells (rowOf 65 (stF S)) 27)).alloc (.cells (inA op rd rs1 rs2 imm csr) 29)) = w1 at i0 s1 kb ⊢
  have c0 : _ = some (Value.int .i64 op) := Blk.cell i0 0
  have c2 : _ = some (Value.int .i64 rs1) := Blk.cell i0 2
  have c3 : _ = some (Value.int .i64 rs2) := Blk.cell i0 3
  have cv := st_v s1
  have c5 : _ = some (Value.int .i64 csr) := Blk.cell i0 5
  by_cases p0 : 0 < rs1
  · by_cases p1 : rs1 < 32
    · obtain ⟨R, rfl⟩ := Int.eq_ofNat_of_zero_le (show 0 ≤ rs1 by omega)
      have cx := st_x s1 (i := R) (by omega)
      have u0 := (hS.X R (by omega)).1
      have e8 : bits .and .u64 (S.X R / 256) 255 = S.X R / 256 % 256 := u_low (S.X R / 256) 8 (by omega) 255 rfl
      have l0 : 0 ≤ S.X R / 256 % 256 := by omega
      have l1 : S.X R / 256 % 256 < 256 := by omega
      have haA : A = S.X R / 256 % 256 := by rw [← hA]; unfold aD; rw [if_pos ⟨p0, p1⟩, if_neg n65, Int.toNat_natCast]
      subst haA
      clear hA
      by_cases o0 : 0 < rs2
      · by_cases o1 : rs2 < 32
        · obtain ⟨R2, rfl⟩ := Int.eq_ofNat_of_zero_le (show 0 ≤ rs2 by omega)
          have dx := st_x s1 (i := R2) (by omega)
          have u1 := (hS.X R2 (by omega)).1
          have f8 : bits .and .u64 (S.X R2) 255 = S.X R2 % 256 := u_low (S.X R2) 8 (by omega) 255 rfl
          have m0 : 0 ≤ S.X R2 % 256 := by omega
          have m1 : S.X R2 % 256 < 256 := by omega
          have haB : B = S.X R2 % 256 := by rw [← hB]; unfold bD; rw [if_pos ⟨o0, o1⟩, Int.toNat_natCast]
          subst haB
          clear hB
          rw [hv] at cv
          go_wp2_with (first | (refine wpList_load_blk (by rfl) 29 _ rfl (w.heap.size + 1) rfl i0 _ Tryd.underlying29 rfl (ins_size' _ _ _ _ _ _) ?_) | (go_at_call 29; refine (rwrites14 _ _ _ _ _ _ _).mono ?_; rintro r w2 ⟨rfl, k2⟩; rw [hw]; have kx := kb.then k2; have s2 : StAt w2 w.heap.size S := World.rowIs.of_block s1 (k2.same _ (World.rowIs.lt s1) id); have i2 := Blk.kept i0 k2; have cv2 := st_v s2; rw [hv] at cv2; have d5 : _ = some (Value.int .i64 csr) := Blk.cell i2 5))
          refine (rtall_any (ht.kept kx)).mono ?_
          rintro r w3 ⟨v, rfl, hown, k3⟩
          obtain ⟨q, cp, rfl⟩ := hown.form
          have ky := kx.then k3
          have hT3 := ht.kept ky
          have hln := all_len T 16 0
          go_wp2_with (first | (refine wpList_built_is (by rfl) 50 #[] rfl none16.toArray (by kernel_rfl) ?_) | (refine wpList_store_mid rfl _ _ _ rfl b 0 none16.toArray rfl rfl (there16 hT3) ents_size' none_ones ?_))
          go_ret
          exact ⟨rfl, tl_none hT3, Kept.then ky (only_cells b none16.toArray.toList 0 _)⟩
        · have haB : B = -1 := by rw [← hB]; unfold bD; rw [if_neg (fun x => o1 x.2)]
          subst haB
          clear hB
          rw [hv] at cv
          go_wp2_with (first | (refine wpList_load_blk (by rfl) 29 _ rfl (w.heap.size + 1) rfl i0 _ Tryd.underlying29 rfl (ins_size' _ _ _ _ _ _) ?_) | (go_at_call 29; refine (rwrites14 _ _ _ _ _ _ _).mono ?_; rintro r w2 ⟨rfl, k2⟩; rw [hw]; have kx := kb.then k2; have s2 : StAt w2 w.heap.size S := World.rowIs.of_block s1 (k2.same _ (World.rowIs.lt s1) id); have i2 := Blk.kept i0 k2; have cv2 := st_v s2; rw [hv] at cv2; have d5 : _ = some (Value.int .i64 csr) := Blk.cell i2 5))
          refine (rtall_any (ht.kept kx)).mono ?_
          rintro r w3 ⟨v, rfl, hown, k3⟩
          obtain ⟨q, cp, rfl⟩ := hown.form
          have ky := kx.then k3
          have hT3 := ht.kept ky
          have hln := all_len T 16 0
          go_wp2_with (first | (refine wpList_built_is (by rfl) 50 #[] rfl none16.toArray (by kernel_rfl) ?_) | (refine wpList_store_mid rfl _ _ _ rfl b 0 none16.toArray rfl rfl (there16 hT3) ents_size' none_ones ?_))
          go_ret
          exact ⟨rfl, tl_none hT3, Kept.then ky (only_cells b none16.toArray.toList 0 _)⟩
      · have haB : B = -1 := by rw [← hB]; unfold bD; rw [if_neg (fun x => o0 x.1)]
        subst haB
        clear hB
        rw [hv] at cv
        go_wp2_with (first | (refine wpList_load_blk (by rfl) 29 _ rfl (w.heap.size + 1) rfl i0 _ Tryd.underlying29 rfl (ins_size' _ _ _ _ _ _) ?_) | (go_at_call 29; refine (rwrites14 _ _ _ _ _ _ _).mono ?_; rintro r w2 ⟨rfl, k2⟩; rw [hw]; have kx := kb.then k2; have s2 : StAt w2 w.heap.size S := World.rowIs.of_block s1 (k2.same _ (World.rowIs.lt s1) id); have i2 := Blk.kept i0 k2; have cv2 := st_v s2; rw [hv] at cv2; have d5 : _ = some (Value.int .i64 csr) := Blk.cell i2 5))
        refine (rtall_any (ht.kept kx)).mono ?_
        rintro r w3 ⟨v, rfl, hown, k3⟩
        obtain ⟨q, cp, rfl⟩ := hown.form
        have ky := kx.then k3
        have hT3 := ht.kept ky
        have hln := all_len T 16 0
        go_wp2_with (first | (refine wpList_built_is (by rfl) 50 #[] rfl none16.toArray (by kernel_rfl) ?_) | (refine wpList_store_mid rfl _ _ _ rfl b 0 none16.toArray rfl rfl (there16 hT3) ents_size' none_ones ?_))
        go_ret
        exact ⟨rfl, tl_none hT3, Kept.then ky (only_cells b none16.toArray.toList 0 _)⟩
    · have haA : A = -1 := by rw [← hA]; unfold aD; rw [if_neg (fun x => p1 x.2)]
      subst haA
      clear hA
      by_cases o0 : 0 < rs2
      · by_cases o1 : rs2 < 32
        · obtain ⟨R2, rfl⟩ := Int.eq_ofNat_of_zero_le (show 0 ≤ rs2 by omega)
          have dx := st_x s1 (i := R2) (by omega)
          have u1 := (hS.X R2 (by omega)).1
          have f8 : bits .and .u64 (S.X R2) 255 = S.X R2 % 256 := u_low (S.X R2) 8 (by omega) 255 rfl
          have m0 : 0 ≤ S.X R2 % 256 := by omega
          have m1 : S.X R2 % 256 < 256 := by omega
          have haB : B = S.X R2 % 256 := by rw [← hB]; unfold bD; rw [if_pos ⟨o0, o1⟩, Int.toNat_natCast]
          subst haB
          clear hB
          rw [hv] at cv
          go_wp2_with (first | (refine wpList_load_blk (by rfl) 29 _ rfl (w.heap.size + 1) rfl i0 _ Tryd.underlying29 rfl (ins_size' _ _ _ _ _ _) ?_) | (go_at_call 29; refine (rwrites14 _ _ _ _ _ _ _).mono ?_; rintro r w2 ⟨rfl, k2⟩; rw [hw]; have kx := kb.then k2; have s2 : StAt w2 w.heap.size S := World.rowIs.of_block s1 (k2.same _ (World.rowIs.lt s1) id); have i2 := Blk.kept i0 k2; have cv2 := st_v s2; rw [hv] at cv2; have d5 : _ = some (Value.int .i64 csr) := Blk.cell i2 5))
          refine (rtall_any (ht.kept kx)).mono ?_
          rintro r w3 ⟨v, rfl, hown, k3⟩
          obtain ⟨q, cp, rfl⟩ := hown.form
          have ky := kx.then k3
          have hT3 := ht.kept ky
          have hln := all_len T 16 0
          go_wp2_with (first | (refine wpList_built_is (by rfl) 50 #[] rfl none16.toArray (by kernel_rfl) ?_) | (refine wpList_store_mid rfl _ _ _ rfl b 0 none16.toArray rfl rfl (there16 hT3) ents_size' none_ones ?_))
          go_ret
          exact ⟨rfl, tl_none hT3, Kept.then ky (only_cells b none16.toArray.toList 0 _)⟩
        · have haB : B = -1 := by rw [← hB]; unfold bD; rw [if_neg (fun x => o1 x.2)]
          subst haB
          clear hB
          rw [hv] at cv
          go_wp2_with (first | (refine wpList_load_blk (by rfl) 29 _ rfl (w.heap.size + 1) rfl i0 _ Tryd.underlying29 rfl (ins_size' _ _ _ _ _ _) ?_) | (go_at_call 29; refine (rwrites14 _ _ _ _ _ _ _).mono ?_; rintro r w2 ⟨rfl, k2⟩; rw [hw]; have kx := kb.then k2; have s2 : StAt w2 w.heap.size S := World.rowIs.of_block s1 (k2.same _ (World.rowIs.lt s1) id); have i2 := Blk.kept i0 k2; have cv2 := st_v s2; rw [hv] at cv2; have d5 : _ = some (Value.int .i64 csr) := Blk.cell i2 5))
          refine (rtall_any (ht.kept kx)).mono ?_
          rintro r w3 ⟨v, rfl, hown, k3⟩
          obtain ⟨q, cp, rfl⟩ := hown.form
          have ky := kx.then k3
          have hT3 := ht.kept ky
          have hln := all_len T 16 0
          go_wp2_with (first | (refine wpList_built_is (by rfl) 50 #[] rfl none16.toArray (by kernel_rfl) ?_) | (refine wpList_store_mid rfl _ _ _ rfl b 0 none16.toArray rfl rfl (there16 hT3) ents_size' none_ones ?_))
          go_ret
          exact ⟨rfl, tl_none hT3, Kept.then ky (only_cells b none16.toArray.toList 0 _)⟩
      · have haB : B = -1 := by rw [← hB]; unfold bD; rw [if_neg (fun x => o0 x.1)]
        subst haB
        clear hB
        rw [hv] at cv
        go_wp2_with (first | (refine wpList_load_blk (by rfl) 29 _ rfl (w.heap.size + 1) rfl i0 _ Tryd.underlying29 rfl (ins_size' _ _ _ _ _ _) ?_) | (go_at_call 29; refine (rwrites14 _ _ _ _ _ _ _).mono ?_; rintro r w2 ⟨rfl, k2⟩; rw [hw]; have kx := kb.then k2; have s2 : StAt w2 w.heap.size S := World.rowIs.of_block s1 (k2.same _ (World.rowIs.lt s1) id); have i2 := Blk.kept i0 k2; have cv2 := st_v s2; rw [hv] at cv2; have d5 : _ = some (Value.int .i64 csr) := Blk.cell i2 5))
        refine (rtall_any (ht.kept kx)).mono ?_
        rintro r w3 ⟨v, rfl, hown, k3⟩
        obtain ⟨q, cp, rfl⟩ := hown.form
        have ky := kx.then k3
        have hT3 := ht.kept ky
        have hln := all_len T 16 0
        go_wp2_with (first | (refine wpList_built_is (by rfl) 50 #[] rfl none16.toArray (by kernel_rfl) ?_) | (refine wpList_store_mid rfl _ _ _ rfl b 0 none16.toArray rfl rfl (there16 hT3) ents_size' none_ones ?_))
        go_ret
        exact ⟨rfl, tl_none hT3, Kept.then ky (only_cells b none16.toArray.toList 0 _)⟩
  · have haA : A = -1 := by rw [← hA]; unfold aD; rw [if_neg (fun x => p0 x.1)]
    subst haA
    clear hA
    by_cases o0 : 0 < rs2
    · by_cases o1 : rs2 < 32
      · obtain ⟨R2, rfl⟩ := Int.eq_ofNat_of_zero_le (show 0 ≤ rs2 by omega)
        have dx := st_x s1 (i := R2) (by omega)
        have u1 := (hS.X R2 (by omega)).1
        have f8 : bits .and .u64 (S.X R2) 255 = S.X R2 % 256 := u_low (S.X R2) 8 (by omega) 255 rfl
        have m0 : 0 ≤ S.X R2 % 256 := by omega
        have m1 : S.X R2 % 256 < 256 := by omega
        have haB : B = S.X R2 % 256 := by rw [← hB]; unfold bD; rw [if_pos ⟨o0, o1⟩, Int.toNat_natCast]
        subst haB
        clear hB
        rw [hv] at cv
        go_wp2_with (first | (refine wpList_load_blk (by rfl) 29 _ rfl (w.heap.size + 1) rfl i0 _ Tryd.underlying29 rfl (ins_size' _ _ _ _ _ _) ?_) | (go_at_call 29; refine (rwrites14 _ _ _ _ _ _ _).mono ?_; rintro r w2 ⟨rfl, k2⟩; rw [hw]; have kx := kb.then k2; have s2 : StAt w2 w.heap.size S := World.rowIs.of_block s1 (k2.same _ (World.rowIs.lt s1) id); have i2 := Blk.kept i0 k2; have cv2 := st_v s2; rw [hv] at cv2; have d5 : _ = some (Value.int .i64 csr) := Blk.cell i2 5))
        refine (rtall_any (ht.kept kx)).mono ?_
        rintro r w3 ⟨v, rfl, hown, k3⟩
        obtain ⟨q, cp, rfl⟩ := hown.form
        have ky := kx.then k3
        have hT3 := ht.kept ky
        have hln := all_len T 16 0
        go_wp2_with (first | (refine wpList_built_is (by rfl) 50 #[] rfl none16.toArray (by kernel_rfl) ?_) | (refine wpList_store_mid rfl _ _ _ rfl b 0 none16.toArray rfl rfl (there16 hT3) ents_size' none_ones ?_))
        go_ret
        exact ⟨rfl, tl_none hT3, Kept.then ky (only_cells b none16.toArray.toList 0 _)⟩
      · have haB : B = -1 := by rw [← hB]; unfold bD; rw [if_neg (fun x => o1 x.2)]
        subst haB
        clear hB
        rw [hv] at cv
        go_wp2_with (first | (refine wpList_load_blk (by rfl) 29 _ rfl (w.heap.size + 1) rfl i0 _ Tryd.underlying29 rfl (ins_size' _ _ _ _ _ _) ?_) | (go_at_call 29; refine (rwrites14 _ _ _ _ _ _ _).mono ?_; rintro r w2 ⟨rfl, k2⟩; rw [hw]; have kx := kb.then k2; have s2 : StAt w2 w.heap.size S := World.rowIs.of_block s1 (k2.same _ (World.rowIs.lt s1) id); have i2 := Blk.kept i0 k2; have cv2 := st_v s2; rw [hv] at cv2; have d5 : _ = some (Value.int .i64 csr) := Blk.cell i2 5))
        refine (rtall_any (ht.kept kx)).mono ?_
        rintro r w3 ⟨v, rfl, hown, k3⟩
        obtain ⟨q, cp, rfl⟩ := hown.form
        have ky := kx.then k3
        have hT3 := ht.kept ky
        have hln := all_len T 16 0
        go_wp2_with (first | (refine wpList_built_is (by rfl) 50 #[] rfl none16.toArray (by kernel_rfl) ?_) | (refine wpList_store_mid rfl _ _ _ rfl b 0 none16.toArray rfl rfl (there16 hT3) ents_size' none_ones ?_))
        go_ret
        exact ⟨rfl, tl_none hT3, Kept.then ky (only_cells b none16.toArray.toList 0 _)⟩
    · have haB : B = -1 := by rw [← hB]; unfold bD; rw [if_neg (fun x => o0 x.1)]
      subst haB
      clear hB
      rw [hv] at cv
      go_wp2_with (first | (refine wpList_load_blk (by rfl) 29 _ rfl (w.heap.size + 1) rfl i0 _ Tryd.underlying29 rfl (ins_size' _ _ _ _ _ _) ?_) | (go_at_call 29; refine (rwrites14 _ _ _ _ _ _ _).mono ?_; rintro r w2 ⟨rfl, k2⟩; rw [hw]; have kx := kb.then k2; have s2 : StAt w2 w.heap.size S := World.rowIs.of_block s1 (k2.same _ (World.rowIs.lt s1) id); have i2 := Blk.kept i0 k2; have cv2 := st_v s2; rw [hv] at cv2; have d5 : _ = some (Value.int .i64 csr) := Blk.cell i2 5))
      refine (rtall_any (ht.kept kx)).mono ?_
      rintro r w3 ⟨v, rfl, hown, k3⟩
      obtain ⟨q, cp, rfl⟩ := hown.form
      have ky := kx.then k3
      have hT3 := ht.kept ky
      have hln := all_len T 16 0
      go_wp2_with (first | (refine wpList_built_is (by rfl) 50 #[] rfl none16.toArray (by kernel_rfl) ?_) | (refine wpList_store_mid rfl _ _ _ rfl b 0 none16.toArray rfl rfl (there16 hT3) ents_size' none_ones ?_))
      go_ret
      exact ⟨rfl, tl_none hT3, Kept.then ky (only_cells b none16.toArray.toList 0 _)⟩
set_option maxRecDepth 10000 in
set_option maxHeartbeats 16000000 in
theorem rdo_flush_f2 (ht : TlAt w b T) (hS : S.Ok) (op rd rs1 rs2 imm csr : Int) (n3 : (op == 63) = false) (n4 : (op == 64) = false) (n5 : (op == 65) = false) (hlo : ¬ op < 54) (hhi : op ≤ 59) (hw : wrB14 op rs1 imm = true) (hv : S.v = false) (m1 : (csr == 384) = false) (m2 : (csr == 640) = false) (m3 : (csr == 1664) = true) :
    Calls Tryd.prog 13 #[.pointer (some ⟨b, 0, none⟩), .agg (rowOf 65 (stF S)), .agg (inA op rd rs1 rs2 imm csr)] w fun r w' => r = .returned (.int .i64 (allT T).length) ∧ TlAt w' b noneT ∧ Only (fun i => i = b) w w' := by
  have n65 : ¬ op = 65 := beq_eq_false_iff_ne.1 n5
  obtain ⟨A, hA⟩ : ∃ A, aD S op rs1 = A := ⟨_, rfl⟩
  obtain ⟨B, hB⟩ : ∃ B, bD S rs2 = B := ⟨_, rfl⟩
  have s0 := st_new w S
  have n1 : (w.alloc (.cells (rowOf 65 (stF S)) 27)).heap.size = w.heap.size + 1 := Go.Deep.nblk_alloc _ _
  have i0 := alloc_last (w.alloc (.cells (rowOf 65 (stF S)) 27)) (inA op rd rs1 rs2 imm csr) 29
  rw [n1] at i0
  have s1 : StAt ((w.alloc (.cells (rowOf 65 (stF S)) 27)).alloc (.cells (inA op rd rs1 rs2 imm csr) 29)) w.heap.size S := World.rowIs.of_block s0 (((Only.refl (fun _ => False) (w.alloc (.cells (rowOf 65 (stF S)) 27))).alloc _).same _ (World.rowIs.lt s0) id)
  have kb : Kept w ((w.alloc (.cells (rowOf 65 (stF S)) 27)).alloc (.cells (inA op rd rs1 rs2 imm csr) 29)) := ((Only.refl _ w).alloc _).alloc _
  clear s0 n1
  go_enter Tryd.func13, Tryd.ntmps13
  go_upto_region 2 with fail
  generalize ((w.alloc (.cells (rowOf 65 (stF S)) 27)).alloc (.cells (inA op rd rs1 rs2 imm csr) 29)) = w1 at i0 s1 kb ⊢
  have c0 : _ = some (Value.int .i64 op) := Blk.cell i0 0
  have c2 : _ = some (Value.int .i64 rs1) := Blk.cell i0 2
  have c3 : _ = some (Value.int .i64 rs2) := Blk.cell i0 3
  have cv := st_v s1
  have c5 : _ = some (Value.int .i64 csr) := Blk.cell i0 5
  by_cases p0 : 0 < rs1
  · by_cases p1 : rs1 < 32
    · obtain ⟨R, rfl⟩ := Int.eq_ofNat_of_zero_le (show 0 ≤ rs1 by omega)
      have cx := st_x s1 (i := R) (by omega)
      have u0 := (hS.X R (by omega)).1
      have e8 : bits .and .u64 (S.X R / 256) 255 = S.X R / 256 % 256 := u_low (S.X R / 256) 8 (by omega) 255 rfl
      have l0 : 0 ≤ S.X R / 256 % 256 := by omega
      have l1 : S.X R / 256 % 256 < 256 := by omega
      have haA : A = S.X R / 256 % 256 := by rw [← hA]; unfold aD; rw [if_pos ⟨p0, p1⟩, if_neg n65, Int.toNat_natCast]
      subst haA
      clear hA
      by_cases o0 : 0 < rs2
      · by_cases o1 : rs2 < 32
        · obtain ⟨R2, rfl⟩ := Int.eq_ofNat_of_zero_le (show 0 ≤ rs2 by omega)
          have dx := st_x s1 (i := R2) (by omega)
          have u1 := (hS.X R2 (by omega)).1
          have f8 : bits .and .u64 (S.X R2) 255 = S.X R2 % 256 := u_low (S.X R2) 8 (by omega) 255 rfl
          have m0 : 0 ≤ S.X R2 % 256 := by omega
          have m1 : S.X R2 % 256 < 256 := by omega
          have haB : B = S.X R2 % 256 := by rw [← hB]; unfold bD; rw [if_pos ⟨o0, o1⟩, Int.toNat_natCast]
          subst haB
          clear hB
          rw [hv] at cv
          go_wp2_with (first | (refine wpList_load_blk (by rfl) 29 _ rfl (w.heap.size + 1) rfl i0 _ Tryd.underlying29 rfl (ins_size' _ _ _ _ _ _) ?_) | (go_at_call 29; refine (rwrites14 _ _ _ _ _ _ _).mono ?_; rintro r w2 ⟨rfl, k2⟩; rw [hw]; have kx := kb.then k2; have s2 : StAt w2 w.heap.size S := World.rowIs.of_block s1 (k2.same _ (World.rowIs.lt s1) id); have i2 := Blk.kept i0 k2; have cv2 := st_v s2; rw [hv] at cv2; have d5 : _ = some (Value.int .i64 csr) := Blk.cell i2 5))
          refine (rtall_any (ht.kept kx)).mono ?_
          rintro r w3 ⟨v, rfl, hown, k3⟩
          obtain ⟨q, cp, rfl⟩ := hown.form
          have ky := kx.then k3
          have hT3 := ht.kept ky
          have hln := all_len T 16 0
          go_wp2_with (first | (refine wpList_built_is (by rfl) 50 #[] rfl none16.toArray (by kernel_rfl) ?_) | (refine wpList_store_mid rfl _ _ _ rfl b 0 none16.toArray rfl rfl (there16 hT3) ents_size' none_ones ?_))
          go_ret
          exact ⟨rfl, tl_none hT3, Kept.then ky (only_cells b none16.toArray.toList 0 _)⟩
        · have haB : B = -1 := by rw [← hB]; unfold bD; rw [if_neg (fun x => o1 x.2)]
          subst haB
          clear hB
          rw [hv] at cv
          go_wp2_with (first | (refine wpList_load_blk (by rfl) 29 _ rfl (w.heap.size + 1) rfl i0 _ Tryd.underlying29 rfl (ins_size' _ _ _ _ _ _) ?_) | (go_at_call 29; refine (rwrites14 _ _ _ _ _ _ _).mono ?_; rintro r w2 ⟨rfl, k2⟩; rw [hw]; have kx := kb.then k2; have s2 : StAt w2 w.heap.size S := World.rowIs.of_block s1 (k2.same _ (World.rowIs.lt s1) id); have i2 := Blk.kept i0 k2; have cv2 := st_v s2; rw [hv] at cv2; have d5 : _ = some (Value.int .i64 csr) := Blk.cell i2 5))
          refine (rtall_any (ht.kept kx)).mono ?_
          rintro r w3 ⟨v, rfl, hown, k3⟩
          obtain ⟨q, cp, rfl⟩ := hown.form
          have ky := kx.then k3
          have hT3 := ht.kept ky
          have hln := all_len T 16 0
          go_wp2_with (first | (refine wpList_built_is (by rfl) 50 #[] rfl none16.toArray (by kernel_rfl) ?_) | (refine wpList_store_mid rfl _ _ _ rfl b 0 none16.toArray rfl rfl (there16 hT3) ents_size' none_ones ?_))
          go_ret
          exact ⟨rfl, tl_none hT3, Kept.then ky (only_cells b none16.toArray.toList 0 _)⟩
      · have haB : B = -1 := by rw [← hB]; unfold bD; rw [if_neg (fun x => o0 x.1)]
        subst haB
        clear hB
        rw [hv] at cv
        go_wp2_with (first | (refine wpList_load_blk (by rfl) 29 _ rfl (w.heap.size + 1) rfl i0 _ Tryd.underlying29 rfl (ins_size' _ _ _ _ _ _) ?_) | (go_at_call 29; refine (rwrites14 _ _ _ _ _ _ _).mono ?_; rintro r w2 ⟨rfl, k2⟩; rw [hw]; have kx := kb.then k2; have s2 : StAt w2 w.heap.size S := World.rowIs.of_block s1 (k2.same _ (World.rowIs.lt s1) id); have i2 := Blk.kept i0 k2; have cv2 := st_v s2; rw [hv] at cv2; have d5 : _ = some (Value.int .i64 csr) := Blk.cell i2 5))
        refine (rtall_any (ht.kept kx)).mono ?_
        rintro r w3 ⟨v, rfl, hown, k3⟩
        obtain ⟨q, cp, rfl⟩ := hown.form
        have ky := kx.then k3
        have hT3 := ht.kept ky
        have hln := all_len T 16 0
        go_wp2_with (first | (refine wpList_built_is (by rfl) 50 #[] rfl none16.toArray (by kernel_rfl) ?_) | (refine wpList_store_mid rfl _ _ _ rfl b 0 none16.toArray rfl rfl (there16 hT3) ents_size' none_ones ?_))
        go_ret
        exact ⟨rfl, tl_none hT3, Kept.then ky (only_cells b none16.toArray.toList 0 _)⟩
    · have haA : A = -1 := by rw [← hA]; unfold aD; rw [if_neg (fun x => p1 x.2)]
      subst haA
      clear hA
      by_cases o0 : 0 < rs2
      · by_cases o1 : rs2 < 32
        · obtain ⟨R2, rfl⟩ := Int.eq_ofNat_of_zero_le (show 0 ≤ rs2 by omega)
          have dx := st_x s1 (i := R2) (by omega)
          have u1 := (hS.X R2 (by omega)).1
          have f8 : bits .and .u64 (S.X R2) 255 = S.X R2 % 256 := u_low (S.X R2) 8 (by omega) 255 rfl
          have m0 : 0 ≤ S.X R2 % 256 := by omega
          have m1 : S.X R2 % 256 < 256 := by omega
          have haB : B = S.X R2 % 256 := by rw [← hB]; unfold bD; rw [if_pos ⟨o0, o1⟩, Int.toNat_natCast]
          subst haB
          clear hB
          rw [hv] at cv
          go_wp2_with (first | (refine wpList_load_blk (by rfl) 29 _ rfl (w.heap.size + 1) rfl i0 _ Tryd.underlying29 rfl (ins_size' _ _ _ _ _ _) ?_) | (go_at_call 29; refine (rwrites14 _ _ _ _ _ _ _).mono ?_; rintro r w2 ⟨rfl, k2⟩; rw [hw]; have kx := kb.then k2; have s2 : StAt w2 w.heap.size S := World.rowIs.of_block s1 (k2.same _ (World.rowIs.lt s1) id); have i2 := Blk.kept i0 k2; have cv2 := st_v s2; rw [hv] at cv2; have d5 : _ = some (Value.int .i64 csr) := Blk.cell i2 5))
          refine (rtall_any (ht.kept kx)).mono ?_
          rintro r w3 ⟨v, rfl, hown, k3⟩
          obtain ⟨q, cp, rfl⟩ := hown.form
          have ky := kx.then k3
          have hT3 := ht.kept ky
          have hln := all_len T 16 0
          go_wp2_with (first | (refine wpList_built_is (by rfl) 50 #[] rfl none16.toArray (by kernel_rfl) ?_) | (refine wpList_store_mid rfl _ _ _ rfl b 0 none16.toArray rfl rfl (there16 hT3) ents_size' none_ones ?_))
          go_ret
          exact ⟨rfl, tl_none hT3, Kept.then ky (only_cells b none16.toArray.toList 0 _)⟩
        · have haB : B = -1 := by rw [← hB]; unfold bD; rw [if_neg (fun x => o1 x.2)]
          subst haB
          clear hB
          rw [hv] at cv
          go_wp2_with (first | (refine wpList_load_blk (by rfl) 29 _ rfl (w.heap.size + 1) rfl i0 _ Tryd.underlying29 rfl (ins_size' _ _ _ _ _ _) ?_) | (go_at_call 29; refine (rwrites14 _ _ _ _ _ _ _).mono ?_; rintro r w2 ⟨rfl, k2⟩; rw [hw]; have kx := kb.then k2; have s2 : StAt w2 w.heap.size S := World.rowIs.of_block s1 (k2.same _ (World.rowIs.lt s1) id); have i2 := Blk.kept i0 k2; have cv2 := st_v s2; rw [hv] at cv2; have d5 : _ = some (Value.int .i64 csr) := Blk.cell i2 5))
          refine (rtall_any (ht.kept kx)).mono ?_
          rintro r w3 ⟨v, rfl, hown, k3⟩
          obtain ⟨q, cp, rfl⟩ := hown.form
          have ky := kx.then k3
          have hT3 := ht.kept ky
          have hln := all_len T 16 0
          go_wp2_with (first | (refine wpList_built_is (by rfl) 50 #[] rfl none16.toArray (by kernel_rfl) ?_) | (refine wpList_store_mid rfl _ _ _ rfl b 0 none16.toArray rfl rfl (there16 hT3) ents_size' none_ones ?_))
          go_ret
          exact ⟨rfl, tl_none hT3, Kept.then ky (only_cells b none16.toArray.toList 0 _)⟩
      · have haB : B = -1 := by rw [← hB]; unfold bD; rw [if_neg (fun x => o0 x.1)]
        subst haB
        clear hB
        rw [hv] at cv
        go_wp2_with (first | (refine wpList_load_blk (by rfl) 29 _ rfl (w.heap.size + 1) rfl i0 _ Tryd.underlying29 rfl (ins_size' _ _ _ _ _ _) ?_) | (go_at_call 29; refine (rwrites14 _ _ _ _ _ _ _).mono ?_; rintro r w2 ⟨rfl, k2⟩; rw [hw]; have kx := kb.then k2; have s2 : StAt w2 w.heap.size S := World.rowIs.of_block s1 (k2.same _ (World.rowIs.lt s1) id); have i2 := Blk.kept i0 k2; have cv2 := st_v s2; rw [hv] at cv2; have d5 : _ = some (Value.int .i64 csr) := Blk.cell i2 5))
        refine (rtall_any (ht.kept kx)).mono ?_
        rintro r w3 ⟨v, rfl, hown, k3⟩
        obtain ⟨q, cp, rfl⟩ := hown.form
        have ky := kx.then k3
        have hT3 := ht.kept ky
        have hln := all_len T 16 0
        go_wp2_with (first | (refine wpList_built_is (by rfl) 50 #[] rfl none16.toArray (by kernel_rfl) ?_) | (refine wpList_store_mid rfl _ _ _ rfl b 0 none16.toArray rfl rfl (there16 hT3) ents_size' none_ones ?_))
        go_ret
        exact ⟨rfl, tl_none hT3, Kept.then ky (only_cells b none16.toArray.toList 0 _)⟩
  · have haA : A = -1 := by rw [← hA]; unfold aD; rw [if_neg (fun x => p0 x.1)]
    subst haA
    clear hA
    by_cases o0 : 0 < rs2
    · by_cases o1 : rs2 < 32
      · obtain ⟨R2, rfl⟩ := Int.eq_ofNat_of_zero_le (show 0 ≤ rs2 by omega)
        have dx := st_x s1 (i := R2) (by omega)
        have u1 := (hS.X R2 (by omega)).1
        have f8 : bits .and .u64 (S.X R2) 255 = S.X R2 % 256 := u_low (S.X R2) 8 (by omega) 255 rfl
        have m0 : 0 ≤ S.X R2 % 256 := by omega
        have m1 : S.X R2 % 256 < 256 := by omega
        have haB : B = S.X R2 % 256 := by rw [← hB]; unfold bD; rw [if_pos ⟨o0, o1⟩, Int.toNat_natCast]
        subst haB
        clear hB
        rw [hv] at cv
        go_wp2_with (first | (refine wpList_load_blk (by rfl) 29 _ rfl (w.heap.size + 1) rfl i0 _ Tryd.underlying29 rfl (ins_size' _ _ _ _ _ _) ?_) | (go_at_call 29; refine (rwrites14 _ _ _ _ _ _ _).mono ?_; rintro r w2 ⟨rfl, k2⟩; rw [hw]; have kx := kb.then k2; have s2 : StAt w2 w.heap.size S := World.rowIs.of_block s1 (k2.same _ (World.rowIs.lt s1) id); have i2 := Blk.kept i0 k2; have cv2 := st_v s2; rw [hv] at cv2; have d5 : _ = some (Value.int .i64 csr) := Blk.cell i2 5))
        refine (rtall_any (ht.kept kx)).mono ?_
        rintro r w3 ⟨v, rfl, hown, k3⟩
        obtain ⟨q, cp, rfl⟩ := hown.form
        have ky := kx.then k3
        have hT3 := ht.kept ky
        have hln := all_len T 16 0
        go_wp2_with (first | (refine wpList_built_is (by rfl) 50 #[] rfl none16.toArray (by kernel_rfl) ?_) | (refine wpList_store_mid rfl _ _ _ rfl b 0 none16.toArray rfl rfl (there16 hT3) ents_size' none_ones ?_))
        go_ret
        exact ⟨rfl, tl_none hT3, Kept.then ky (only_cells b none16.toArray.toList 0 _)⟩
      · have haB : B = -1 := by rw [← hB]; unfold bD; rw [if_neg (fun x => o1 x.2)]
        subst haB
        clear hB
        rw [hv] at cv
        go_wp2_with (first | (refine wpList_load_blk (by rfl) 29 _ rfl (w.heap.size + 1) rfl i0 _ Tryd.underlying29 rfl (ins_size' _ _ _ _ _ _) ?_) | (go_at_call 29; refine (rwrites14 _ _ _ _ _ _ _).mono ?_; rintro r w2 ⟨rfl, k2⟩; rw [hw]; have kx := kb.then k2; have s2 : StAt w2 w.heap.size S := World.rowIs.of_block s1 (k2.same _ (World.rowIs.lt s1) id); have i2 := Blk.kept i0 k2; have cv2 := st_v s2; rw [hv] at cv2; have d5 : _ = some (Value.int .i64 csr) := Blk.cell i2 5))
        refine (rtall_any (ht.kept kx)).mono ?_
        rintro r w3 ⟨v, rfl, hown, k3⟩
        obtain ⟨q, cp, rfl⟩ := hown.form
        have ky := kx.then k3
        have hT3 := ht.kept ky
        have hln := all_len T 16 0
        go_wp2_with (first | (refine wpList_built_is (by rfl) 50 #[] rfl none16.toArray (by kernel_rfl) ?_) | (refine wpList_store_mid rfl _ _ _ rfl b 0 none16.toArray rfl rfl (there16 hT3) ents_size' none_ones ?_))
        go_ret
        exact ⟨rfl, tl_none hT3, Kept.then ky (only_cells b none16.toArray.toList 0 _)⟩
    · have haB : B = -1 := by rw [← hB]; unfold bD; rw [if_neg (fun x => o0 x.1)]
      subst haB
      clear hB
      rw [hv] at cv
      go_wp2_with (first | (refine wpList_load_blk (by rfl) 29 _ rfl (w.heap.size + 1) rfl i0 _ Tryd.underlying29 rfl (ins_size' _ _ _ _ _ _) ?_) | (go_at_call 29; refine (rwrites14 _ _ _ _ _ _ _).mono ?_; rintro r w2 ⟨rfl, k2⟩; rw [hw]; have kx := kb.then k2; have s2 : StAt w2 w.heap.size S := World.rowIs.of_block s1 (k2.same _ (World.rowIs.lt s1) id); have i2 := Blk.kept i0 k2; have cv2 := st_v s2; rw [hv] at cv2; have d5 : _ = some (Value.int .i64 csr) := Blk.cell i2 5))
      refine (rtall_any (ht.kept kx)).mono ?_
      rintro r w3 ⟨v, rfl, hown, k3⟩
      obtain ⟨q, cp, rfl⟩ := hown.form
      have ky := kx.then k3
      have hT3 := ht.kept ky
      have hln := all_len T 16 0
      go_wp2_with (first | (refine wpList_built_is (by rfl) 50 #[] rfl none16.toArray (by kernel_rfl) ?_) | (refine wpList_store_mid rfl _ _ _ rfl b 0 none16.toArray rfl rfl (there16 hT3) ents_size' none_ones ?_))
      go_ret
      exact ⟨rfl, tl_none hT3, Kept.then ky (only_cells b none16.toArray.toList 0 _)⟩
set_option maxRecDepth 10000 in
set_option maxHeartbeats 16000000 in
theorem rdo_flush_t0 (ht : TlAt w b T) (hS : S.Ok) (op rd rs1 rs2 imm csr : Int) (n3 : (op == 63) = false) (n4 : (op == 64) = false) (n5 : (op == 65) = false) (hlo : ¬ op < 54) (hhi : op ≤ 59) (hw : wrB14 op rs1 imm = true) (hv : S.v = true) (n : Int) (hr : redI csr = n) (m1 : (n == 384) = true) :
    Calls Tryd.prog 13 #[.pointer (some ⟨b, 0, none⟩), .agg (rowOf 65 (stF S)), .agg (inA op rd rs1 rs2 imm csr)] w fun r w' => r = .returned (.int .i64 (allT T).length) ∧ TlAt w' b noneT ∧ Only (fun i => i = b) w w' := by
  have n65 : ¬ op = 65 := beq_eq_false_iff_ne.1 n5
  obtain ⟨A, hA⟩ : ∃ A, aD S op rs1 = A := ⟨_, rfl⟩
  obtain ⟨B, hB⟩ : ∃ B, bD S rs2 = B := ⟨_, rfl⟩
  have s0 := st_new w S
  have n1 : (w.alloc (.cells (rowOf 65 (stF S)) 27)).heap.size = w.heap.size + 1 := Go.Deep.nblk_alloc _ _
  have i0 := alloc_last (w.alloc (.cells (rowOf 65 (stF S)) 27)) (inA op rd rs1 rs2 imm csr) 29
  rw [n1] at i0
  have s1 : StAt ((w.alloc (.cells (rowOf 65 (stF S)) 27)).alloc (.cells (inA op rd rs1 rs2 imm csr) 29)) w.heap.size S := World.rowIs.of_block s0 (((Only.refl (fun _ => False) (w.alloc (.cells (rowOf 65 (stF S)) 27))).alloc _).same _ (World.rowIs.lt s0) id)
  have kb : Kept w ((w.alloc (.cells (rowOf 65 (stF S)) 27)).alloc (.cells (inA op rd rs1 rs2 imm csr) 29)) := ((Only.refl _ w).alloc _).alloc _
  clear s0 n1
  go_enter Tryd.func13, Tryd.ntmps13
  go_upto_region 2 with fail
  generalize ((w.alloc (.cells (rowOf 65 (stF S)) 27)).alloc (.cells (inA op rd rs1 rs2 imm csr) 29)) = w1 at i0 s1 kb ⊢
  have c0 : _ = some (Value.int .i64 op) := Blk.cell i0 0
  have c2 : _ = some (Value.int .i64 rs1) := Blk.cell i0 2
  have c3 : _ = some (Value.int .i64 rs2) := Blk.cell i0 3
  have cv := st_v s1
  have c5 : _ = some (Value.int .i64 csr) := Blk.cell i0 5
  by_cases p0 : 0 < rs1
  · by_cases p1 : rs1 < 32
    · obtain ⟨R, rfl⟩ := Int.eq_ofNat_of_zero_le (show 0 ≤ rs1 by omega)
      have cx := st_x s1 (i := R) (by omega)
      have u0 := (hS.X R (by omega)).1
      have e8 : bits .and .u64 (S.X R / 256) 255 = S.X R / 256 % 256 := u_low (S.X R / 256) 8 (by omega) 255 rfl
      have l0 : 0 ≤ S.X R / 256 % 256 := by omega
      have l1 : S.X R / 256 % 256 < 256 := by omega
      have haA : A = S.X R / 256 % 256 := by rw [← hA]; unfold aD; rw [if_pos ⟨p0, p1⟩, if_neg n65, Int.toNat_natCast]
      subst haA
      clear hA
      by_cases o0 : 0 < rs2
      · by_cases o1 : rs2 < 32
        · obtain ⟨R2, rfl⟩ := Int.eq_ofNat_of_zero_le (show 0 ≤ rs2 by omega)
          have dx := st_x s1 (i := R2) (by omega)
          have u1 := (hS.X R2 (by omega)).1
          have f8 : bits .and .u64 (S.X R2) 255 = S.X R2 % 256 := u_low (S.X R2) 8 (by omega) 255 rfl
          have m0 : 0 ≤ S.X R2 % 256 := by omega
          have m1 : S.X R2 % 256 < 256 := by omega
          have haB : B = S.X R2 % 256 := by rw [← hB]; unfold bD; rw [if_pos ⟨o0, o1⟩, Int.toNat_natCast]
          subst haB
          clear hB
          rw [hv] at cv
          go_wp2_with (first | (refine wpList_load_blk (by rfl) 29 _ rfl (w.heap.size + 1) rfl i0 _ Tryd.underlying29 rfl (ins_size' _ _ _ _ _ _) ?_) | (go_at_call 29; refine (rwrites14 _ _ _ _ _ _ _).mono ?_; rintro r w2 ⟨rfl, k2⟩; rw [hw]; have kx := kb.then k2; have s2 : StAt w2 w.heap.size S := World.rowIs.of_block s1 (k2.same _ (World.rowIs.lt s1) id); have i2 := Blk.kept i0 k2; have cv2 := st_v s2; rw [hv] at cv2; have d5 : _ = some (Value.int .i64 csr) := Blk.cell i2 5) | (go_at_call 30; refine (rred_any _ _).mono ?_; rintro r wy ⟨rfl, hwy⟩; rw [hwy, hr]; clear hwy wy))
          refine (rtall_any (ht.kept kx)).mono ?_
          rintro r w3 ⟨v, rfl, hown, k3⟩
          obtain ⟨q, cp, rfl⟩ := hown.form
          have ky := kx.then k3
          have hT3 := ht.kept ky
          have hln := all_len T 16 0
          go_wp2_with (first | (refine wpList_built_is (by rfl) 50 #[] rfl none16.toArray (by kernel_rfl) ?_) | (refine wpList_store_mid rfl _ _ _ rfl b 0 none16.toArray rfl rfl (there16 hT3) ents_size' none_ones ?_))
          go_ret
          exact ⟨rfl, tl_none hT3, Kept.then ky (only_cells b none16.toArray.toList 0 _)⟩
        · have haB : B = -1 := by rw [← hB]; unfold bD; rw [if_neg (fun x => o1 x.2)]
          subst haB
          clear hB
          rw [hv] at cv
          go_wp2_with (first | (refine wpList_load_blk (by rfl) 29 _ rfl (w.heap.size + 1) rfl i0 _ Tryd.underlying29 rfl (ins_size' _ _ _ _ _ _) ?_) | (go_at_call 29; refine (rwrites14 _ _ _ _ _ _ _).mono ?_; rintro r w2 ⟨rfl, k2⟩; rw [hw]; have kx := kb.then k2; have s2 : StAt w2 w.heap.size S := World.rowIs.of_block s1 (k2.same _ (World.rowIs.lt s1) id); have i2 := Blk.kept i0 k2; have cv2 := st_v s2; rw [hv] at cv2; have d5 : _ = some (Value.int .i64 csr) := Blk.cell i2 5) | (go_at_call 30; refine (rred_any _ _).mono ?_; rintro r wy ⟨rfl, hwy⟩; rw [hwy, hr]; clear hwy wy))
          refine (rtall_any (ht.kept kx)).mono ?_
          rintro r w3 ⟨v, rfl, hown, k3⟩
          obtain ⟨q, cp, rfl⟩ := hown.form
          have ky := kx.then k3
          have hT3 := ht.kept ky
          have hln := all_len T 16 0
          go_wp2_with (first | (refine wpList_built_is (by rfl) 50 #[] rfl none16.toArray (by kernel_rfl) ?_) | (refine wpList_store_mid rfl _ _ _ rfl b 0 none16.toArray rfl rfl (there16 hT3) ents_size' none_ones ?_))
          go_ret
          exact ⟨rfl, tl_none hT3, Kept.then ky (only_cells b none16.toArray.toList 0 _)⟩
      · have haB : B = -1 := by rw [← hB]; unfold bD; rw [if_neg (fun x => o0 x.1)]
        subst haB
        clear hB
        rw [hv] at cv
        go_wp2_with (first | (refine wpList_load_blk (by rfl) 29 _ rfl (w.heap.size + 1) rfl i0 _ Tryd.underlying29 rfl (ins_size' _ _ _ _ _ _) ?_) | (go_at_call 29; refine (rwrites14 _ _ _ _ _ _ _).mono ?_; rintro r w2 ⟨rfl, k2⟩; rw [hw]; have kx := kb.then k2; have s2 : StAt w2 w.heap.size S := World.rowIs.of_block s1 (k2.same _ (World.rowIs.lt s1) id); have i2 := Blk.kept i0 k2; have cv2 := st_v s2; rw [hv] at cv2; have d5 : _ = some (Value.int .i64 csr) := Blk.cell i2 5) | (go_at_call 30; refine (rred_any _ _).mono ?_; rintro r wy ⟨rfl, hwy⟩; rw [hwy, hr]; clear hwy wy))
        refine (rtall_any (ht.kept kx)).mono ?_
        rintro r w3 ⟨v, rfl, hown, k3⟩
        obtain ⟨q, cp, rfl⟩ := hown.form
        have ky := kx.then k3
        have hT3 := ht.kept ky
        have hln := all_len T 16 0
        go_wp2_with (first | (refine wpList_built_is (by rfl) 50 #[] rfl none16.toArray (by kernel_rfl) ?_) | (refine wpList_store_mid rfl _ _ _ rfl b 0 none16.toArray rfl rfl (there16 hT3) ents_size' none_ones ?_))
        go_ret
        exact ⟨rfl, tl_none hT3, Kept.then ky (only_cells b none16.toArray.toList 0 _)⟩
    · have haA : A = -1 := by rw [← hA]; unfold aD; rw [if_neg (fun x => p1 x.2)]
      subst haA
      clear hA
      by_cases o0 : 0 < rs2
      · by_cases o1 : rs2 < 32
        · obtain ⟨R2, rfl⟩ := Int.eq_ofNat_of_zero_le (show 0 ≤ rs2 by omega)
          have dx := st_x s1 (i := R2) (by omega)
          have u1 := (hS.X R2 (by omega)).1
          have f8 : bits .and .u64 (S.X R2) 255 = S.X R2 % 256 := u_low (S.X R2) 8 (by omega) 255 rfl
          have m0 : 0 ≤ S.X R2 % 256 := by omega
          have m1 : S.X R2 % 256 < 256 := by omega
          have haB : B = S.X R2 % 256 := by rw [← hB]; unfold bD; rw [if_pos ⟨o0, o1⟩, Int.toNat_natCast]
          subst haB
          clear hB
          rw [hv] at cv
          go_wp2_with (first | (refine wpList_load_blk (by rfl) 29 _ rfl (w.heap.size + 1) rfl i0 _ Tryd.underlying29 rfl (ins_size' _ _ _ _ _ _) ?_) | (go_at_call 29; refine (rwrites14 _ _ _ _ _ _ _).mono ?_; rintro r w2 ⟨rfl, k2⟩; rw [hw]; have kx := kb.then k2; have s2 : StAt w2 w.heap.size S := World.rowIs.of_block s1 (k2.same _ (World.rowIs.lt s1) id); have i2 := Blk.kept i0 k2; have cv2 := st_v s2; rw [hv] at cv2; have d5 : _ = some (Value.int .i64 csr) := Blk.cell i2 5) | (go_at_call 30; refine (rred_any _ _).mono ?_; rintro r wy ⟨rfl, hwy⟩; rw [hwy, hr]; clear hwy wy))
          refine (rtall_any (ht.kept kx)).mono ?_
          rintro r w3 ⟨v, rfl, hown, k3⟩
          obtain ⟨q, cp, rfl⟩ := hown.form
          have ky := kx.then k3
          have hT3 := ht.kept ky
          have hln := all_len T 16 0
          go_wp2_with (first | (refine wpList_built_is (by rfl) 50 #[] rfl none16.toArray (by kernel_rfl) ?_) | (refine wpList_store_mid rfl _ _ _ rfl b 0 none16.toArray rfl rfl (there16 hT3) ents_size' none_ones ?_))
          go_ret
          exact ⟨rfl, tl_none hT3, Kept.then ky (only_cells b none16.toArray.toList 0 _)⟩
        · have haB : B = -1 := by rw [← hB]; unfold bD; rw [if_neg (fun x => o1 x.2)]
          subst haB
          clear hB
          rw [hv] at cv
          go_wp2_with (first | (refine wpList_load_blk (by rfl) 29 _ rfl (w.heap.size + 1) rfl i0 _ Tryd.underlying29 rfl (ins_size' _ _ _ _ _ _) ?_) | (go_at_call 29; refine (rwrites14 _ _ _ _ _ _ _).mono ?_; rintro r w2 ⟨rfl, k2⟩; rw [hw]; have kx := kb.then k2; have s2 : StAt w2 w.heap.size S := World.rowIs.of_block s1 (k2.same _ (World.rowIs.lt s1) id); have i2 := Blk.kept i0 k2; have cv2 := st_v s2; rw [hv] at cv2; have d5 : _ = some (Value.int .i64 csr) := Blk.cell i2 5) | (go_at_call 30; refine (rred_any _ _).mono ?_; rintro r wy ⟨rfl, hwy⟩; rw [hwy, hr]; clear hwy wy))
          refine (rtall_any (ht.kept kx)).mono ?_
          rintro r w3 ⟨v, rfl, hown, k3⟩
          obtain ⟨q, cp, rfl⟩ := hown.form
          have ky := kx.then k3
          have hT3 := ht.kept ky
          have hln := all_len T 16 0
          go_wp2_with (first | (refine wpList_built_is (by rfl) 50 #[] rfl none16.toArray (by kernel_rfl) ?_) | (refine wpList_store_mid rfl _ _ _ rfl b 0 none16.toArray rfl rfl (there16 hT3) ents_size' none_ones ?_))
          go_ret
          exact ⟨rfl, tl_none hT3, Kept.then ky (only_cells b none16.toArray.toList 0 _)⟩
      · have haB : B = -1 := by rw [← hB]; unfold bD; rw [if_neg (fun x => o0 x.1)]
        subst haB
        clear hB
        rw [hv] at cv
        go_wp2_with (first | (refine wpList_load_blk (by rfl) 29 _ rfl (w.heap.size + 1) rfl i0 _ Tryd.underlying29 rfl (ins_size' _ _ _ _ _ _) ?_) | (go_at_call 29; refine (rwrites14 _ _ _ _ _ _ _).mono ?_; rintro r w2 ⟨rfl, k2⟩; rw [hw]; have kx := kb.then k2; have s2 : StAt w2 w.heap.size S := World.rowIs.of_block s1 (k2.same _ (World.rowIs.lt s1) id); have i2 := Blk.kept i0 k2; have cv2 := st_v s2; rw [hv] at cv2; have d5 : _ = some (Value.int .i64 csr) := Blk.cell i2 5) | (go_at_call 30; refine (rred_any _ _).mono ?_; rintro r wy ⟨rfl, hwy⟩; rw [hwy, hr]; clear hwy wy))
        refine (rtall_any (ht.kept kx)).mono ?_
        rintro r w3 ⟨v, rfl, hown, k3⟩
        obtain ⟨q, cp, rfl⟩ := hown.form
        have ky := kx.then k3
        have hT3 := ht.kept ky
        have hln := all_len T 16 0
        go_wp2_with (first | (refine wpList_built_is (by rfl) 50 #[] rfl none16.toArray (by kernel_rfl) ?_) | (refine wpList_store_mid rfl _ _ _ rfl b 0 none16.toArray rfl rfl (there16 hT3) ents_size' none_ones ?_))
        go_ret
        exact ⟨rfl, tl_none hT3, Kept.then ky (only_cells b none16.toArray.toList 0 _)⟩
  · have haA : A = -1 := by rw [← hA]; unfold aD; rw [if_neg (fun x => p0 x.1)]
    subst haA
    clear hA
    by_cases o0 : 0 < rs2
    · by_cases o1 : rs2 < 32
      · obtain ⟨R2, rfl⟩ := Int.eq_ofNat_of_zero_le (show 0 ≤ rs2 by omega)
        have dx := st_x s1 (i := R2) (by omega)
        have u1 := (hS.X R2 (by omega)).1
        have f8 : bits .and .u64 (S.X R2) 255 = S.X R2 % 256 := u_low (S.X R2) 8 (by omega) 255 rfl
        have m0 : 0 ≤ S.X R2 % 256 := by omega
        have m1 : S.X R2 % 256 < 256 := by omega
        have haB : B = S.X R2 % 256 := by rw [← hB]; unfold bD; rw [if_pos ⟨o0, o1⟩, Int.toNat_natCast]
        subst haB
        clear hB
        rw [hv] at cv
        go_wp2_with (first | (refine wpList_load_blk (by rfl) 29 _ rfl (w.heap.size + 1) rfl i0 _ Tryd.underlying29 rfl (ins_size' _ _ _ _ _ _) ?_) | (go_at_call 29; refine (rwrites14 _ _ _ _ _ _ _).mono ?_; rintro r w2 ⟨rfl, k2⟩; rw [hw]; have kx := kb.then k2; have s2 : StAt w2 w.heap.size S := World.rowIs.of_block s1 (k2.same _ (World.rowIs.lt s1) id); have i2 := Blk.kept i0 k2; have cv2 := st_v s2; rw [hv] at cv2; have d5 : _ = some (Value.int .i64 csr) := Blk.cell i2 5) | (go_at_call 30; refine (rred_any _ _).mono ?_; rintro r wy ⟨rfl, hwy⟩; rw [hwy, hr]; clear hwy wy))
        refine (rtall_any (ht.kept kx)).mono ?_
        rintro r w3 ⟨v, rfl, hown, k3⟩
        obtain ⟨q, cp, rfl⟩ := hown.form
        have ky := kx.then k3
        have hT3 := ht.kept ky
        have hln := all_len T 16 0
        go_wp2_with (first | (refine wpList_built_is (by rfl) 50 #[] rfl none16.toArray (by kernel_rfl) ?_) | (refine wpList_store_mid rfl _ _ _ rfl b 0 none16.toArray rfl rfl (there16 hT3) ents_size' none_ones ?_))
        go_ret
        exact ⟨rfl, tl_none hT3, Kept.then ky (only_cells b none16.toArray.toList 0 _)⟩
      · have haB : B = -1 := by rw [← hB]; unfold bD; rw [if_neg (fun x => o1 x.2)]
        subst haB
        clear hB
        rw [hv] at cv
        go_wp2_with (first | (refine wpList_load_blk (by rfl) 29 _ rfl (w.heap.size + 1) rfl i0 _ Tryd.underlying29 rfl (ins_size' _ _ _ _ _ _) ?_) | (go_at_call 29; refine (rwrites14 _ _ _ _ _ _ _).mono ?_; rintro r w2 ⟨rfl, k2⟩; rw [hw]; have kx := kb.then k2; have s2 : StAt w2 w.heap.size S := World.rowIs.of_block s1 (k2.same _ (World.rowIs.lt s1) id); have i2 := Blk.kept i0 k2; have cv2 := st_v s2; rw [hv] at cv2; have d5 : _ = some (Value.int .i64 csr) := Blk.cell i2 5) | (go_at_call 30; refine (rred_any _ _).mono ?_; rintro r wy ⟨rfl, hwy⟩; rw [hwy, hr]; clear hwy wy))
        refine (rtall_any (ht.kept kx)).mono ?_
        rintro r w3 ⟨v, rfl, hown, k3⟩
        obtain ⟨q, cp, rfl⟩ := hown.form
        have ky := kx.then k3
        have hT3 := ht.kept ky
        have hln := all_len T 16 0
        go_wp2_with (first | (refine wpList_built_is (by rfl) 50 #[] rfl none16.toArray (by kernel_rfl) ?_) | (refine wpList_store_mid rfl _ _ _ rfl b 0 none16.toArray rfl rfl (there16 hT3) ents_size' none_ones ?_))
        go_ret
        exact ⟨rfl, tl_none hT3, Kept.then ky (only_cells b none16.toArray.toList 0 _)⟩
    · have haB : B = -1 := by rw [← hB]; unfold bD; rw [if_neg (fun x => o0 x.1)]
      subst haB
      clear hB
      rw [hv] at cv
      go_wp2_with (first | (refine wpList_load_blk (by rfl) 29 _ rfl (w.heap.size + 1) rfl i0 _ Tryd.underlying29 rfl (ins_size' _ _ _ _ _ _) ?_) | (go_at_call 29; refine (rwrites14 _ _ _ _ _ _ _).mono ?_; rintro r w2 ⟨rfl, k2⟩; rw [hw]; have kx := kb.then k2; have s2 : StAt w2 w.heap.size S := World.rowIs.of_block s1 (k2.same _ (World.rowIs.lt s1) id); have i2 := Blk.kept i0 k2; have cv2 := st_v s2; rw [hv] at cv2; have d5 : _ = some (Value.int .i64 csr) := Blk.cell i2 5) | (go_at_call 30; refine (rred_any _ _).mono ?_; rintro r wy ⟨rfl, hwy⟩; rw [hwy, hr]; clear hwy wy))
      refine (rtall_any (ht.kept kx)).mono ?_
      rintro r w3 ⟨v, rfl, hown, k3⟩
      obtain ⟨q, cp, rfl⟩ := hown.form
      have ky := kx.then k3
      have hT3 := ht.kept ky
      have hln := all_len T 16 0
      go_wp2_with (first | (refine wpList_built_is (by rfl) 50 #[] rfl none16.toArray (by kernel_rfl) ?_) | (refine wpList_store_mid rfl _ _ _ rfl b 0 none16.toArray rfl rfl (there16 hT3) ents_size' none_ones ?_))
      go_ret
      exact ⟨rfl, tl_none hT3, Kept.then ky (only_cells b none16.toArray.toList 0 _)⟩
set_option maxRecDepth 10000 in
set_option maxHeartbeats 16000000 in
theorem rdo_flush_t1 (ht : TlAt w b T) (hS : S.Ok) (op rd rs1 rs2 imm csr : Int) (n3 : (op == 63) = false) (n4 : (op == 64) = false) (n5 : (op == 65) = false) (hlo : ¬ op < 54) (hhi : op ≤ 59) (hw : wrB14 op rs1 imm = true) (hv : S.v = true) (n : Int) (hr : redI csr = n) (m1 : (n == 384) = false) (m2 : (n == 640) = true) :
    Calls Tryd.prog 13 #[.pointer (some ⟨b, 0, none⟩), .agg (rowOf 65 (stF S)), .agg (inA op rd rs1 rs2 imm csr)] w fun r w' => r = .returned (.int .i64 (allT T).length) ∧ TlAt w' b noneT ∧ Only (fun i => i = b) w w' := by
  have n65 : ¬ op = 65 := beq_eq_false_iff_ne.1 n5
  obtain ⟨A, hA⟩ : ∃ A, aD S op rs1 = A := ⟨_, rfl⟩
  obtain ⟨B, hB⟩ : ∃ B, bD S rs2 = B := ⟨_, rfl⟩
  have s0 := st_new w S
  have n1 : (w.alloc (.cells (rowOf 65 (stF S)) 27)).heap.size = w.heap.size + 1 := Go.Deep.nblk_alloc _ _
  have i0 := alloc_last (w.alloc (.cells (rowOf 65 (stF S)) 27)) (inA op rd rs1 rs2 imm csr) 29
  rw [n1] at i0
  have s1 : StAt ((w.alloc (.cells (rowOf 65 (stF S)) 27)).alloc (.cells (inA op rd rs1 rs2 imm csr) 29)) w.heap.size S := World.rowIs.of_block s0 (((Only.refl (fun _ => False) (w.alloc (.cells (rowOf 65 (stF S)) 27))).alloc _).same _ (World.rowIs.lt s0) id)
  have kb : Kept w ((w.alloc (.cells (rowOf 65 (stF S)) 27)).alloc (.cells (inA op rd rs1 rs2 imm csr) 29)) := ((Only.refl _ w).alloc _).alloc _
  clear s0 n1
  go_enter Tryd.func13, Tryd.ntmps13
  go_upto_region 2 with fail
  generalize ((w.alloc (.cells (rowOf 65 (stF S)) 27)).alloc (.cells (inA op rd rs1 rs2 imm csr) 29)) = w1 at i0 s1 kb ⊢
  have c0 : _ = some (Value.int .i64 op) := Blk.cell i0 0
  have c2 : _ = some (Value.int .i64 rs1) := Blk.cell i0 2
  have c3 : _ = some (Value.int .i64 rs2) := Blk.cell i0 3
  have cv := st_v s1
  have c5 : _ = some (Value.int .i64 csr) := Blk.cell i0 5
  by_cases p0 : 0 < rs1
  · by_cases p1 : rs1 < 32
    · obtain ⟨R, rfl⟩ := Int.eq_ofNat_of_zero_le (show 0 ≤ rs1 by omega)
      have cx := st_x s1 (i := R) (by omega)
      have u0 := (hS.X R (by omega)).1
      have e8 : bits .and .u64 (S.X R / 256) 255 = S.X R / 256 % 256 := u_low (S.X R / 256) 8 (by omega) 255 rfl
      have l0 : 0 ≤ S.X R / 256 % 256 := by omega
      have l1 : S.X R / 256 % 256 < 256 := by omega
      have haA : A = S.X R / 256 % 256 := by rw [← hA]; unfold aD; rw [if_pos ⟨p0, p1⟩, if_neg n65, Int.toNat_natCast]
      subst haA
      clear hA
      by_cases o0 : 0 < rs2
      · by_cases o1 : rs2 < 32
        · obtain ⟨R2, rfl⟩ := Int.eq_ofNat_of_zero_le (show 0 ≤ rs2 by omega)
          have dx := st_x s1 (i := R2) (by omega)
          have u1 := (hS.X R2 (by omega)).1
          have f8 : bits .and .u64 (S.X R2) 255 = S.X R2 % 256 := u_low (S.X R2) 8 (by omega) 255 rfl
          have m0 : 0 ≤ S.X R2 % 256 := by omega
          have m1 : S.X R2 % 256 < 256 := by omega
          have haB : B = S.X R2 % 256 := by rw [← hB]; unfold bD; rw [if_pos ⟨o0, o1⟩, Int.toNat_natCast]
          subst haB
          clear hB
          rw [hv] at cv
          go_wp2_with (first | (refine wpList_load_blk (by rfl) 29 _ rfl (w.heap.size + 1) rfl i0 _ Tryd.underlying29 rfl (ins_size' _ _ _ _ _ _) ?_) | (go_at_call 29; refine (rwrites14 _ _ _ _ _ _ _).mono ?_; rintro r w2 ⟨rfl, k2⟩; rw [hw]; have kx := kb.then k2; have s2 : StAt w2 w.heap.size S := World.rowIs.of_block s1 (k2.same _ (World.rowIs.lt s1) id); have i2 := Blk.kept i0 k2; have cv2 := st_v s2; rw [hv] at cv2; have d5 : _ = some (Value.int .i64 csr) := Blk.cell i2 5) | (go_at_call 30; refine (rred_any _ _).mono ?_; rintro r wy ⟨rfl, hwy⟩; rw [hwy, hr]; clear hwy wy))
          refine (rtall_any (ht.kept kx)).mono ?_
          rintro r w3 ⟨v, rfl, hown, k3⟩
          obtain ⟨q, cp, rfl⟩ := hown.form
          have ky := kx.then k3
          have hT3 := ht.kept ky
          have hln := all_len T 16 0
          go_wp2_with (first | (refine wpList_built_is (by rfl) 50 #[] rfl none16.toArray (by kernel_rfl) ?_) | (refine wpList_store_mid rfl _ _ _ rfl b 0 none16.toArray rfl rfl (there16 hT3) ents_size' none_ones ?_))
          go_ret
          exact ⟨rfl, tl_none hT3, Kept.then ky (only_cells b none16.toArray.toList 0 _)⟩
        · have haB : B = -1 := by rw [← hB]; unfold bD; rw [if_neg (fun x => o1 x.2)]
          subst haB
          clear hB
          rw [hv] at cv
          go_wp2_with (first | (refine wpList_load_blk (by rfl) 29 _ rfl (w.heap.size + 1) rfl i0 _ Tryd.underlying29 rfl (ins_size' _ _ _ _ _ _) ?_) | (go_at_call 29; refine (rwrites14 _ _ _ _ _ _ _).mono ?_; rintro r w2 ⟨rfl, k2⟩; rw [hw]; have kx := kb.then k2; have s2 : StAt w2 w.heap.size S := World.rowIs.of_block s1 (k2.same _ (World.rowIs.lt s1) id); have i2 := Blk.kept i0 k2; have cv2 := st_v s2; rw [hv] at cv2; have d5 : _ = some (Value.int .i64 csr) := Blk.cell i2 5) | (go_at_call 30; refine (rred_any _ _).mono ?_; rintro r wy ⟨rfl, hwy⟩; rw [hwy, hr]; clear hwy wy))
          refine (rtall_any (ht.kept kx)).mono ?_
          rintro r w3 ⟨v, rfl, hown, k3⟩
          obtain ⟨q, cp, rfl⟩ := hown.form
          have ky := kx.then k3
          have hT3 := ht.kept ky
          have hln := all_len T 16 0
          go_wp2_with (first | (refine wpList_built_is (by rfl) 50 #[] rfl none16.toArray (by kernel_rfl) ?_) | (refine wpList_store_mid rfl _ _ _ rfl b 0 none16.toArray rfl rfl (there16 hT3) ents_size' none_ones ?_))
          go_ret
          exact ⟨rfl, tl_none hT3, Kept.then ky (only_cells b none16.toArray.toList 0 _)⟩
      · have haB : B = -1 := by rw [← hB]; unfold bD; rw [if_neg (fun x => o0 x.1)]
        subst haB
        clear hB
        rw [hv] at cv
        go_wp2_with (first | (refine wpList_load_blk (by rfl) 29 _ rfl (w.heap.size + 1) rfl i0 _ Tryd.underlying29 rfl (ins_size' _ _ _ _ _ _) ?_) | (go_at_call 29; refine (rwrites14 _ _ _ _ _ _ _).mono ?_; rintro r w2 ⟨rfl, k2⟩; rw [hw]; have kx := kb.then k2; have s2 : StAt w2 w.heap.size S := World.rowIs.of_block s1 (k2.same _ (World.rowIs.lt s1) id); have i2 := Blk.kept i0 k2; have cv2 := st_v s2; rw [hv] at cv2; have d5 : _ = some (Value.int .i64 csr) := Blk.cell i2 5) | (go_at_call 30; refine (rred_any _ _).mono ?_; rintro r wy ⟨rfl, hwy⟩; rw [hwy, hr]; clear hwy wy))
        refine (rtall_any (ht.kept kx)).mono ?_
        rintro r w3 ⟨v, rfl, hown, k3⟩
        obtain ⟨q, cp, rfl⟩ := hown.form
        have ky := kx.then k3
        have hT3 := ht.kept ky
        have hln := all_len T 16 0
        go_wp2_with (first | (refine wpList_built_is (by rfl) 50 #[] rfl none16.toArray (by kernel_rfl) ?_) | (refine wpList_store_mid rfl _ _ _ rfl b 0 none16.toArray rfl rfl (there16 hT3) ents_size' none_ones ?_))
        go_ret
        exact ⟨rfl, tl_none hT3, Kept.then ky (only_cells b none16.toArray.toList 0 _)⟩
    · have haA : A = -1 := by rw [← hA]; unfold aD; rw [if_neg (fun x => p1 x.2)]
      subst haA
      clear hA
      by_cases o0 : 0 < rs2
      · by_cases o1 : rs2 < 32
        · obtain ⟨R2, rfl⟩ := Int.eq_ofNat_of_zero_le (show 0 ≤ rs2 by omega)
          have dx := st_x s1 (i := R2) (by omega)
          have u1 := (hS.X R2 (by omega)).1
          have f8 : bits .and .u64 (S.X R2) 255 = S.X R2 % 256 := u_low (S.X R2) 8 (by omega) 255 rfl
          have m0 : 0 ≤ S.X R2 % 256 := by omega
          have m1 : S.X R2 % 256 < 256 := by omega
          have haB : B = S.X R2 % 256 := by rw [← hB]; unfold bD; rw [if_pos ⟨o0, o1⟩, Int.toNat_natCast]
          subst haB
          clear hB
          rw [hv] at cv
          go_wp2_with (first | (refine wpList_load_blk (by rfl) 29 _ rfl (w.heap.size + 1) rfl i0 _ Tryd.underlying29 rfl (ins_size' _ _ _ _ _ _) ?_) | (go_at_call 29; refine (rwrites14 _ _ _ _ _ _ _).mono ?_; rintro r w2 ⟨rfl, k2⟩; rw [hw]; have kx := kb.then k2; have s2 : StAt w2 w.heap.size S := World.rowIs.of_block s1 (k2.same _ (World.rowIs.lt s1) id); have i2 := Blk.kept i0 k2; have cv2 := st_v s2; rw [hv] at cv2; have d5 : _ = some (Value.int .i64 csr) := Blk.cell i2 5) | (go_at_call 30; refine (rred_any _ _).mono ?_; rintro r wy ⟨rfl, hwy⟩; rw [hwy, hr]; clear hwy wy))
          refine (rtall_any (ht.kept kx)).mono ?_
          rintro r w3 ⟨v, rfl, hown, k3⟩
          obtain ⟨q, cp, rfl⟩ := hown.form
          have ky := kx.then k3
          have hT3 := ht.kept ky
          have hln := all_len T 16 0
          go_wp2_with (first | (refine wpList_built_is (by rfl) 50 #[] rfl none16.toArray (by kernel_rfl) ?_) | (refine wpList_store_mid rfl _ _ _ rfl b 0 none16.toArray rfl rfl (there16 hT3) ents_size' none_ones ?_))
          go_ret
          exact ⟨rfl, tl_none hT3, Kept.then ky (only_cells b none16.toArray.toList 0 _)⟩
        · have haB : B = -1 := by rw [← hB]; unfold bD; rw [if_neg (fun x => o1 x.2)]
          subst haB
          clear hB
          rw [hv] at cv
          go_wp2_with (first | (refine wpList_load_blk (by rfl) 29 _ rfl (w.heap.size + 1) rfl i0 _ Tryd.underlying29 rfl (ins_size' _ _ _ _ _ _) ?_) | (go_at_call 29; refine (rwrites14 _ _ _ _ _ _ _).mono ?_; rintro r w2 ⟨rfl, k2⟩; rw [hw]; have kx := kb.then k2; have s2 : StAt w2 w.heap.size S := World.rowIs.of_block s1 (k2.same _ (World.rowIs.lt s1) id); have i2 := Blk.kept i0 k2; have cv2 := st_v s2; rw [hv] at cv2; have d5 : _ = some (Value.int .i64 csr) := Blk.cell i2 5) | (go_at_call 30; refine (rred_any _ _).mono ?_; rintro r wy ⟨rfl, hwy⟩; rw [hwy, hr]; clear hwy wy))
          refine (rtall_any (ht.kept kx)).mono ?_
          rintro r w3 ⟨v, rfl, hown, k3⟩
          obtain ⟨q, cp, rfl⟩ := hown.form
          have ky := kx.then k3
          have hT3 := ht.kept ky
          have hln := all_len T 16 0
          go_wp2_with (first | (refine wpList_built_is (by rfl) 50 #[] rfl none16.toArray (by kernel_rfl) ?_) | (refine wpList_store_mid rfl _ _ _ rfl b 0 none16.toArray rfl rfl (there16 hT3) ents_size' none_ones ?_))
          go_ret
          exact ⟨rfl, tl_none hT3, Kept.then ky (only_cells b none16.toArray.toList 0 _)⟩
      · have haB : B = -1 := by rw [← hB]; unfold bD; rw [if_neg (fun x => o0 x.1)]
        subst haB
        clear hB
        rw [hv] at cv
        go_wp2_with (first | (refine wpList_load_blk (by rfl) 29 _ rfl (w.heap.size + 1) rfl i0 _ Tryd.underlying29 rfl (ins_size' _ _ _ _ _ _) ?_) | (go_at_call 29; refine (rwrites14 _ _ _ _ _ _ _).mono ?_; rintro r w2 ⟨rfl, k2⟩; rw [hw]; have kx := kb.then k2; have s2 : StAt w2 w.heap.size S := World.rowIs.of_block s1 (k2.same _ (World.rowIs.lt s1) id); have i2 := Blk.kept i0 k2; have cv2 := st_v s2; rw [hv] at cv2; have d5 : _ = some (Value.int .i64 csr) := Blk.cell i2 5) | (go_at_call 30; refine (rred_any _ _).mono ?_; rintro r wy ⟨rfl, hwy⟩; rw [hwy, hr]; clear hwy wy))
        refine (rtall_any (ht.kept kx)).mono ?_
        rintro r w3 ⟨v, rfl, hown, k3⟩
        obtain ⟨q, cp, rfl⟩ := hown.form
        have ky := kx.then k3
        have hT3 := ht.kept ky
        have hln := all_len T 16 0
        go_wp2_with (first | (refine wpList_built_is (by rfl) 50 #[] rfl none16.toArray (by kernel_rfl) ?_) | (refine wpList_store_mid rfl _ _ _ rfl b 0 none16.toArray rfl rfl (there16 hT3) ents_size' none_ones ?_))
        go_ret
        exact ⟨rfl, tl_none hT3, Kept.then ky (only_cells b none16.toArray.toList 0 _)⟩
  · have haA : A = -1 := by rw [← hA]; unfold aD; rw [if_neg (fun x => p0 x.1)]
    subst haA
    clear hA
    by_cases o0 : 0 < rs2
    · by_cases o1 : rs2 < 32
      · obtain ⟨R2, rfl⟩ := Int.eq_ofNat_of_zero_le (show 0 ≤ rs2 by omega)
        have dx := st_x s1 (i := R2) (by omega)
        have u1 := (hS.X R2 (by omega)).1
        have f8 : bits .and .u64 (S.X R2) 255 = S.X R2 % 256 := u_low (S.X R2) 8 (by omega) 255 rfl
        have m0 : 0 ≤ S.X R2 % 256 := by omega
        have m1 : S.X R2 % 256 < 256 := by omega
        have haB : B = S.X R2 % 256 := by rw [← hB]; unfold bD; rw [if_pos ⟨o0, o1⟩, Int.toNat_natCast]
        subst haB
        clear hB
        rw [hv] at cv
        go_wp2_with (first | (refine wpList_load_blk (by rfl) 29 _ rfl (w.heap.size + 1) rfl i0 _ Tryd.underlying29 rfl (ins_size' _ _ _ _ _ _) ?_) | (go_at_call 29; refine (rwrites14 _ _ _ _ _ _ _).mono ?_; rintro r w2 ⟨rfl, k2⟩; rw [hw]; have kx := kb.then k2; have s2 : StAt w2 w.heap.size S := World.rowIs.of_block s1 (k2.same _ (World.rowIs.lt s1) id); have i2 := Blk.kept i0 k2; have cv2 := st_v s2; rw [hv] at cv2; have d5 : _ = some (Value.int .i64 csr) := Blk.cell i2 5) | (go_at_call 30; refine (rred_any _ _).mono ?_; rintro r wy ⟨rfl, hwy⟩; rw [hwy, hr]; clear hwy wy))
        refine (rtall_any (ht.kept kx)).mono ?_
        rintro r w3 ⟨v, rfl, hown, k3⟩
        obtain ⟨q, cp, rfl⟩ := hown.form
        have ky := kx.then k3
        have hT3 := ht.kept ky
        have hln := all_len T 16 0
        go_wp2_with (first | (refine wpList_built_is (by rfl) 50 #[] rfl none16.toArray (by kernel_rfl) ?_) | (refine wpList_store_mid rfl _ _ _ rfl b 0 none16.toArray rfl rfl (there16 hT3) ents_size' none_ones ?_))
        go_ret
        exact ⟨rfl, tl_none hT3, Kept.then ky (only_cells b none16.toArray.toList 0 _)⟩
      · have haB : B = -1 := by rw [← hB]; unfold bD; rw [if_neg (fun x => o1 x.2)]
        subst haB
        clear hB
        rw [hv] at cv
        go_wp2_with (first | (refine wpList_load_blk (by rfl) 29 _ rfl (w.heap.size + 1) rfl i0 _ Tryd.underlying29 rfl (ins_size' _ _ _ _ _ _) ?_) | (go_at_call 29; refine (rwrites14 _ _ _ _ _ _ _).mono ?_; rintro r w2 ⟨rfl, k2⟩; rw [hw]; have kx := kb.then k2; have s2 : StAt w2 w.heap.size S := World.rowIs.of_block s1 (k2.same _ (World.rowIs.lt s1) id); have i2 := Blk.kept i0 k2; have cv2 := st_v s2; rw [hv] at cv2; have d5 : _ = some (Value.int .i64 csr) := Blk.cell i2 5) | (go_at_call 30; refine (rred_any _ _).mono ?_; rintro r wy ⟨rfl, hwy⟩; rw [hwy, hr]; clear hwy wy))
        refine (rtall_any (ht.kept kx)).mono ?_
        rintro r w3 ⟨v, rfl, hown, k3⟩
        obtain ⟨q, cp, rfl⟩ := hown.form
        have ky := kx.then k3
        have hT3 := ht.kept ky
        have hln := all_len T 16 0
        go_wp2_with (first | (refine wpList_built_is (by rfl) 50 #[] rfl none16.toArray (by kernel_rfl) ?_) | (refine wpList_store_mid rfl _ _ _ rfl b 0 none16.toArray rfl rfl (there16 hT3) ents_size' none_ones ?_))
        go_ret
        exact ⟨rfl, tl_none hT3, Kept.then ky (only_cells b none16.toArray.toList 0 _)⟩
    · have haB : B = -1 := by rw [← hB]; unfold bD; rw [if_neg (fun x => o0 x.1)]
      subst haB
      clear hB
      rw [hv] at cv
      go_wp2_with (first | (refine wpList_load_blk (by rfl) 29 _ rfl (w.heap.size + 1) rfl i0 _ Tryd.underlying29 rfl (ins_size' _ _ _ _ _ _) ?_) | (go_at_call 29; refine (rwrites14 _ _ _ _ _ _ _).mono ?_; rintro r w2 ⟨rfl, k2⟩; rw [hw]; have kx := kb.then k2; have s2 : StAt w2 w.heap.size S := World.rowIs.of_block s1 (k2.same _ (World.rowIs.lt s1) id); have i2 := Blk.kept i0 k2; have cv2 := st_v s2; rw [hv] at cv2; have d5 : _ = some (Value.int .i64 csr) := Blk.cell i2 5) | (go_at_call 30; refine (rred_any _ _).mono ?_; rintro r wy ⟨rfl, hwy⟩; rw [hwy, hr]; clear hwy wy))
      refine (rtall_any (ht.kept kx)).mono ?_
      rintro r w3 ⟨v, rfl, hown, k3⟩
      obtain ⟨q, cp, rfl⟩ := hown.form
      have ky := kx.then k3
      have hT3 := ht.kept ky
      have hln := all_len T 16 0
      go_wp2_with (first | (refine wpList_built_is (by rfl) 50 #[] rfl none16.toArray (by kernel_rfl) ?_) | (refine wpList_store_mid rfl _ _ _ rfl b 0 none16.toArray rfl rfl (there16 hT3) ents_size' none_ones ?_))
      go_ret
      exact ⟨rfl, tl_none hT3, Kept.then ky (only_cells b none16.toArray.toList 0 _)⟩
set_option maxRecDepth 10000 in
set_option maxHeartbeats 16000000 in
theorem rdo_flush_t2 (ht : TlAt w b T) (hS : S.Ok) (op rd rs1 rs2 imm csr : Int) (n3 : (op == 63) = false) (n4 : (op == 64) = false) (n5 : (op == 65) = false) (hlo : ¬ op < 54) (hhi : op ≤ 59) (hw : wrB14 op rs1 imm = true) (hv : S.v = true) (n : Int) (hr : redI csr = n) (m1 : (n == 384) = false) (m2 : (n == 640) = false) (m3 : (n == 1664) = true) :
    Calls Tryd.prog 13 #[.pointer (some ⟨b, 0, none⟩), .agg (rowOf 65 (stF S)), .agg (inA op rd rs1 rs2 imm csr)] w fun r w' => r = .returned (.int .i64 (allT T).length) ∧ TlAt w' b noneT ∧ Only (fun i => i = b) w w' := by
  have n65 : ¬ op = 65 := beq_eq_false_iff_ne.1 n5
  obtain ⟨A, hA⟩ : ∃ A, aD S op rs1 = A := ⟨_, rfl⟩
  obtain ⟨B, hB⟩ : ∃ B, bD S rs2 = B := ⟨_, rfl⟩
  have s0 := st_new w S
  have n1 : (w.alloc (.cells (rowOf 65 (stF S)) 27)).heap.size = w.heap.size + 1 := Go.Deep.nblk_alloc _ _
  have i0 := alloc_last (w.alloc (.cells (rowOf 65 (stF S)) 27)) (inA op rd rs1 rs2 imm csr) 29
  rw [n1] at i0
  have s1 : StAt ((w.alloc (.cells (rowOf 65 (stF S)) 27)).alloc (.cells (inA op rd rs1 rs2 imm csr) 29)) w.heap.size S := World.rowIs.of_block s0 (((Only.refl (fun _ => False) (w.alloc (.cells (rowOf 65 (stF S)) 27))).alloc _).same _ (World.rowIs.lt s0) id)
  have kb : Kept w ((w.alloc (.cells (rowOf 65 (stF S)) 27)).alloc (.cells (inA op rd rs1 rs2 imm csr) 29)) := ((Only.refl _ w).alloc _).alloc _
  clear s0 n1
  go_enter Tryd.func13, Tryd.ntmps13
  go_upto_region 2 with fail
  generalize ((w.alloc (.cells (rowOf 65 (stF S)) 27)).alloc (.cells (inA op rd rs1 rs2 imm csr) 29)) = w1 at i0 s1 kb ⊢
  have c0 : _ = some (Value.int .i64 op) := Blk.cell i0 0
  have c2 : _ = some (Value.int .i64 rs1) := Blk.cell i0 2
  have c3 : _ = some (Value.int .i64 rs2) := Blk.cell i0 3
  have cv := st_v s1
  have c5 : _ = some (Value.int .i64 csr) := Blk.cell i0 5
  by_cases p0 : 0 < rs1
  · by_cases p1 : rs1 < 32
    · obtain ⟨R, rfl⟩ := Int.eq_ofNat_of_zero_le (show 0 ≤ rs1 by omega)
      have cx := st_x s1 (i := R) (by omega)
      have u0 := (hS.X R (by omega)).1
      have e8 : bits .and .u64 (S.X R / 256) 255 = S.X R / 256 % 256 := u_low (S.X R / 256) 8 (by omega) 255 rfl
      have l0 : 0 ≤ S.X R / 256 % 256 := by omega
      have l1 : S.X R / 256 % 256 < 256 := by omega
      have haA : A = S.X R / 256 % 256 := by rw [← hA]; unfold aD; rw [if_pos ⟨p0, p1⟩, if_neg n65, Int.toNat_natCast]
      subst haA
      clear hA
      by_cases o0 : 0 < rs2
      · by_cases o1 : rs2 < 32
        · obtain ⟨R2, rfl⟩ := Int.eq_ofNat_of_zero_le (show 0 ≤ rs2 by omega)
          have dx := st_x s1 (i := R2) (by omega)
          have u1 := (hS.X R2 (by omega)).1
          have f8 : bits .and .u64 (S.X R2) 255 = S.X R2 % 256 := u_low (S.X R2) 8 (by omega) 255 rfl
          have m0 : 0 ≤ S.X R2 % 256 := by omega
          have m1 : S.X R2 % 256 < 256 := by omega
          have haB : B = S.X R2 % 256 := by rw [← hB]; unfold bD; rw [if_pos ⟨o0, o1⟩, Int.toNat_natCast]
          subst haB
          clear hB
          rw [hv] at cv
          go_wp2_with (first | (refine wpList_load_blk (by rfl) 29 _ rfl (w.heap.size + 1) rfl i0 _ Tryd.underlying29 rfl (ins_size' _ _ _ _ _ _) ?_) | (go_at_call 29; refine (rwrites14 _ _ _ _ _ _ _).mono ?_; rintro r w2 ⟨rfl, k2⟩; rw [hw]; have kx := kb.then k2; have s2 : StAt w2 w.heap.size S := World.rowIs.of_block s1 (k2.same _ (World.rowIs.lt s1) id); have i2 := Blk.kept i0 k2; have cv2 := st_v s2; rw [hv] at cv2; have d5 : _ = some (Value.int .i64 csr) := Blk.cell i2 5) | (go_at_call 30; refine (rred_any _ _).mono ?_; rintro r wy ⟨rfl, hwy⟩; rw [hwy, hr]; clear hwy wy))
          refine (rtall_any (ht.kept kx)).mono ?_
          rintro r w3 ⟨v, rfl, hown, k3⟩
          obtain ⟨q, cp, rfl⟩ := hown.form
          have ky := kx.then k3
          have hT3 := ht.kept ky
          have hln := all_len T 16 0
          go_wp2_with (first | (refine wpList_built_is (by rfl) 50 #[] rfl none16.toArray (by kernel_rfl) ?_) | (refine wpList_store_mid rfl _ _ _ rfl b 0 none16.toArray rfl rfl (there16 hT3) ents_size' none_ones ?_))
          go_ret
          exact ⟨rfl, tl_none hT3, Kept.then ky (only_cells b none16.toArray.toList 0 _)⟩
        · have haB : B = -1 := by rw [← hB]; unfold bD; rw [if_neg (fun x => o1 x.2)]
          subst haB
          clear hB
          rw [hv] at cv
          go_wp2_with (first | (refine wpList_load_blk (by rfl) 29 _ rfl (w.heap.size + 1) rfl i0 _ Tryd.underlying29 rfl (ins_size' _ _ _ _ _ _) ?_) | (go_at_call 29; refine (rwrites14 _ _ _ _ _ _ _).mono ?_; rintro r w2 ⟨rfl, k2⟩; rw [hw]; have kx := kb.then k2; have s2 : StAt w2 w.heap.size S := World.rowIs.of_block s1 (k2.same _ (World.rowIs.lt s1) id); have i2 := Blk.kept i0 k2; have cv2 := st_v s2; rw [hv] at cv2; have d5 : _ = some (Value.int .i64 csr) := Blk.cell i2 5) | (go_at_call 30; refine (rred_any _ _).mono ?_; rintro r wy ⟨rfl, hwy⟩; rw [hwy, hr]; clear hwy wy))
          refine (rtall_any (ht.kept kx)).mono ?_
          rintro r w3 ⟨v, rfl, hown, k3⟩
          obtain ⟨q, cp, rfl⟩ := hown.form
          have ky := kx.then k3
          have hT3 := ht.kept ky
          have hln := all_len T 16 0
          go_wp2_with (first | (refine wpList_built_is (by rfl) 50 #[] rfl none16.toArray (by kernel_rfl) ?_) | (refine wpList_store_mid rfl _ _ _ rfl b 0 none16.toArray rfl rfl (there16 hT3) ents_size' none_ones ?_))
          go_ret
          exact ⟨rfl, tl_none hT3, Kept.then ky (only_cells b none16.toArray.toList 0 _)⟩
      · have haB : B = -1 := by rw [← hB]; unfold bD; rw [if_neg (fun x => o0 x.1)]
        subst haB
        clear hB
        rw [hv] at cv
        go_wp2_with (first | (refine wpList_load_blk (by rfl) 29 _ rfl (w.heap.size + 1) rfl i0 _ Tryd.underlying29 rfl (ins_size' _ _ _ _ _ _) ?_) | (go_at_call 29; refine (rwrites14 _ _ _ _ _ _ _).mono ?_; rintro r w2 ⟨rfl, k2⟩; rw [hw]; have kx := kb.then k2; have s2 : StAt w2 w.heap.size S := World.rowIs.of_block s1 (k2.same _ (World.rowIs.lt s1) id); have i2 := Blk.kept i0 k2; have cv2 := st_v s2; rw [hv] at cv2; have d5 : _ = some (Value.int .i64 csr) := Blk.cell i2 5) | (go_at_call 30; refine (rred_any _ _).mono ?_; rintro r wy ⟨rfl, hwy⟩; rw [hwy, hr]; clear hwy wy))
        refine (rtall_any (ht.kept kx)).mono ?_
        rintro r w3 ⟨v, rfl, hown, k3⟩
        obtain ⟨q, cp, rfl⟩ := hown.form
        have ky := kx.then k3
        have hT3 := ht.kept ky
        have hln := all_len T 16 0
        go_wp2_with (first | (refine wpList_built_is (by rfl) 50 #[] rfl none16.toArray (by kernel_rfl) ?_) | (refine wpList_store_mid rfl _ _ _ rfl b 0 none16.toArray rfl rfl (there16 hT3) ents_size' none_ones ?_))
        go_ret
        exact ⟨rfl, tl_none hT3, Kept.then ky (only_cells b none16.toArray.toList 0 _)⟩
    · have haA : A = -1 := by rw [← hA]; unfold aD; rw [if_neg (fun x => p1 x.2)]
      subst haA
      clear hA
      by_cases o0 : 0 < rs2
      · by_cases o1 : rs2 < 32
        · obtain ⟨R2, rfl⟩ := Int.eq_ofNat_of_zero_le (show 0 ≤ rs2 by omega)
          have dx := st_x s1 (i := R2) (by omega)
          have u1 := (hS.X R2 (by omega)).1
          have f8 : bits .and .u64 (S.X R2) 255 = S.X R2 % 256 := u_low (S.X R2) 8 (by omega) 255 rfl
          have m0 : 0 ≤ S.X R2 % 256 := by omega
          have m1 : S.X R2 % 256 < 256 := by omega
          have haB : B = S.X R2 % 256 := by rw [← hB]; unfold bD; rw [if_pos ⟨o0, o1⟩, Int.toNat_natCast]
          subst haB
          clear hB
          rw [hv] at cv
          go_wp2_with (first | (refine wpList_load_blk (by rfl) 29 _ rfl (w.heap.size + 1) rfl i0 _ Tryd.underlying29 rfl (ins_size' _ _ _ _ _ _) ?_) | (go_at_call 29; refine (rwrites14 _ _ _ _ _ _ _).mono ?_; rintro r w2 ⟨rfl, k2⟩; rw [hw]; have kx := kb.then k2; have s2 : StAt w2 w.heap.size S := World.rowIs.of_block s1 (k2.same _ (World.rowIs.lt s1) id); have i2 := Blk.kept i0 k2; have cv2 := st_v s2; rw [hv] at cv2; have d5 : _ = some (Value.int .i64 csr) := Blk.cell i2 5) | (go_at_call 30; refine (rred_any _ _).mono ?_; rintro r wy ⟨rfl, hwy⟩; rw [hwy, hr]; clear hwy wy))
          refine (rtall_any (ht.kept kx)).mono ?_
          rintro r w3 ⟨v, rfl, hown, k3⟩
          obtain ⟨q, cp, rfl⟩ := hown.form
          have ky := kx.then k3
          have hT3 := ht.kept ky
          have hln := all_len T 16 0
          go_wp2_with (first | (refine wpList_built_is (by rfl) 50 #[] rfl none16.toArray (by kernel_rfl) ?_) | (refine wpList_store_mid rfl _ _ _ rfl b 0 none16.toArray rfl rfl (there16 hT3) ents_size' none_ones ?_))
          go_ret
          exact ⟨rfl, tl_none hT3, Kept.then ky (only_cells b none16.toArray.toList 0 _)⟩
        · have haB : B = -1 := by rw [← hB]; unfold bD; rw [if_neg (fun x => o1 x.2)]
          subst haB
          clear hB
          rw [hv] at cv
          go_wp2_with (first | (refine wpList_load_blk (by rfl) 29 _ rfl (w.heap.size + 1) rfl i0 _ Tryd.underlying29 rfl (ins_size' _ _ _ _ _ _) ?_) | (go_at_call 29; refine (rwrites14 _ _ _ _ _ _ _).mono ?_; rintro r w2 ⟨rfl, k2⟩; rw [hw]; have kx := kb.then k2; have s2 : StAt w2 w.heap.size S := World.rowIs.of_block s1 (k2.same _ (World.rowIs.lt s1) id); have i2 := Blk.kept i0 k2; have cv2 := st_v s2; rw [hv] at cv2; have d5 : _ = some (Value.int .i64 csr) := Blk.cell i2 5) | (go_at_call 30; refine (rred_any _ _).mono ?_; rintro r wy ⟨rfl, hwy⟩; rw [hwy, hr]; clear hwy wy))
          refine (rtall_any (ht.kept kx)).mono ?_
          rintro r w3 ⟨v, rfl, hown, k3⟩
          obtain ⟨q, cp, rfl⟩ := hown.form
          have ky := kx.then k3
          have hT3 := ht.kept ky
          have hln := all_len T 16 0
          go_wp2_with (first | (refine wpList_built_is (by rfl) 50 #[] rfl none16.toArray (by kernel_rfl) ?_) | (refine wpList_store_mid rfl _ _ _ rfl b 0 none16.toArray rfl rfl (there16 hT3) ents_size' none_ones ?_))
          go_ret
          exact ⟨rfl, tl_none hT3, Kept.then ky (only_cells b none16.toArray.toList 0 _)⟩
      · have haB : B = -1 := by rw [← hB]; unfold bD; rw [if_neg (fun x => o0 x.1)]
        subst haB
        clear hB
        rw [hv] at cv
        go_wp2_with (first | (refine wpList_load_blk (by rfl) 29 _ rfl (w.heap.size + 1) rfl i0 _ Tryd.underlying29 rfl (ins_size' _ _ _ _ _ _) ?_) | (go_at_call 29; refine (rwrites14 _ _ _ _ _ _ _).mono ?_; rintro r w2 ⟨rfl, k2⟩; rw [hw]; have kx := kb.then k2; have s2 : StAt w2 w.heap.size S := World.rowIs.of_block s1 (k2.same _ (World.rowIs.lt s1) id); have i2 := Blk.kept i0 k2; have cv2 := st_v s2; rw [hv] at cv2; have d5 : _ = some (Value.int .i64 csr) := Blk.cell i2 5) | (go_at_call 30; refine (rred_any _ _).mono ?_; rintro r wy ⟨rfl, hwy⟩; rw [hwy, hr]; clear hwy wy))
        refine (rtall_any (ht.kept kx)).mono ?_
        rintro r w3 ⟨v, rfl, hown, k3⟩
        obtain ⟨q, cp, rfl⟩ := hown.form
        have ky := kx.then k3
        have hT3 := ht.kept ky
        have hln := all_len T 16 0
        go_wp2_with (first | (refine wpList_built_is (by rfl) 50 #[] rfl none16.toArray (by kernel_rfl) ?_) | (refine wpList_store_mid rfl _ _ _ rfl b 0 none16.toArray rfl rfl (there16 hT3) ents_size' none_ones ?_))
        go_ret
        exact ⟨rfl, tl_none hT3, Kept.then ky (only_cells b none16.toArray.toList 0 _)⟩
  · have haA : A = -1 := by rw [← hA]; unfold aD; rw [if_neg (fun x => p0 x.1)]
    subst haA
    clear hA
    by_cases o0 : 0 < rs2
    · by_cases o1 : rs2 < 32
      · obtain ⟨R2, rfl⟩ := Int.eq_ofNat_of_zero_le (show 0 ≤ rs2 by omega)
        have dx := st_x s1 (i := R2) (by omega)
        have u1 := (hS.X R2 (by omega)).1
        have f8 : bits .and .u64 (S.X R2) 255 = S.X R2 % 256 := u_low (S.X R2) 8 (by omega) 255 rfl
        have m0 : 0 ≤ S.X R2 % 256 := by omega
        have m1 : S.X R2 % 256 < 256 := by omega
        have haB : B = S.X R2 % 256 := by rw [← hB]; unfold bD; rw [if_pos ⟨o0, o1⟩, Int.toNat_natCast]
        subst haB
        clear hB
        rw [hv] at cv
        go_wp2_with (first | (refine wpList_load_blk (by rfl) 29 _ rfl (w.heap.size + 1) rfl i0 _ Tryd.underlying29 rfl (ins_size' _ _ _ _ _ _) ?_) | (go_at_call 29; refine (rwrites14 _ _ _ _ _ _ _).mono ?_; rintro r w2 ⟨rfl, k2⟩; rw [hw]; have kx := kb.then k2; have s2 : StAt w2 w.heap.size S := World.rowIs.of_block s1 (k2.same _ (World.rowIs.lt s1) id); have i2 := Blk.kept i0 k2; have cv2 := st_v s2; rw [hv] at cv2; have d5 : _ = some (Value.int .i64 csr) := Blk.cell i2 5) | (go_at_call 30; refine (rred_any _ _).mono ?_; rintro r wy ⟨rfl, hwy⟩; rw [hwy, hr]; clear hwy wy))
        refine (rtall_any (ht.kept kx)).mono ?_
        rintro r w3 ⟨v, rfl, hown, k3⟩
        obtain ⟨q, cp, rfl⟩ := hown.form
        have ky := kx.then k3
        have hT3 := ht.kept ky
        have hln := all_len T 16 0
        go_wp2_with (first | (refine wpList_built_is (by rfl) 50 #[] rfl none16.toArray (by kernel_rfl) ?_) | (refine wpList_store_mid rfl _ _ _ rfl b 0 none16.toArray rfl rfl (there16 hT3) ents_size' none_ones ?_))
        go_ret
        exact ⟨rfl, tl_none hT3, Kept.then ky (only_cells b none16.toArray.toList 0 _)⟩
      · have haB : B = -1 := by rw [← hB]; unfold bD; rw [if_neg (fun x => o1 x.2)]
        subst haB
        clear hB
        rw [hv] at cv
        go_wp2_with (first | (refine wpList_load_blk (by rfl) 29 _ rfl (w.heap.size + 1) rfl i0 _ Tryd.underlying29 rfl (ins_size' _ _ _ _ _ _) ?_) | (go_at_call 29; refine (rwrites14 _ _ _ _ _ _ _).mono ?_; rintro r w2 ⟨rfl, k2⟩; rw [hw]; have kx := kb.then k2; have s2 : StAt w2 w.heap.size S := World.rowIs.of_block s1 (k2.same _ (World.rowIs.lt s1) id); have i2 := Blk.kept i0 k2; have cv2 := st_v s2; rw [hv] at cv2; have d5 : _ = some (Value.int .i64 csr) := Blk.cell i2 5) | (go_at_call 30; refine (rred_any _ _).mono ?_; rintro r wy ⟨rfl, hwy⟩; rw [hwy, hr]; clear hwy wy))
        refine (rtall_any (ht.kept kx)).mono ?_
        rintro r w3 ⟨v, rfl, hown, k3⟩
        obtain ⟨q, cp, rfl⟩ := hown.form
        have ky := kx.then k3
        have hT3 := ht.kept ky
        have hln := all_len T 16 0
        go_wp2_with (first | (refine wpList_built_is (by rfl) 50 #[] rfl none16.toArray (by kernel_rfl) ?_) | (refine wpList_store_mid rfl _ _ _ rfl b 0 none16.toArray rfl rfl (there16 hT3) ents_size' none_ones ?_))
        go_ret
        exact ⟨rfl, tl_none hT3, Kept.then ky (only_cells b none16.toArray.toList 0 _)⟩
    · have haB : B = -1 := by rw [← hB]; unfold bD; rw [if_neg (fun x => o0 x.1)]
      subst haB
      clear hB
      rw [hv] at cv
      go_wp2_with (first | (refine wpList_load_blk (by rfl) 29 _ rfl (w.heap.size + 1) rfl i0 _ Tryd.underlying29 rfl (ins_size' _ _ _ _ _ _) ?_) | (go_at_call 29; refine (rwrites14 _ _ _ _ _ _ _).mono ?_; rintro r w2 ⟨rfl, k2⟩; rw [hw]; have kx := kb.then k2; have s2 : StAt w2 w.heap.size S := World.rowIs.of_block s1 (k2.same _ (World.rowIs.lt s1) id); have i2 := Blk.kept i0 k2; have cv2 := st_v s2; rw [hv] at cv2; have d5 : _ = some (Value.int .i64 csr) := Blk.cell i2 5) | (go_at_call 30; refine (rred_any _ _).mono ?_; rintro r wy ⟨rfl, hwy⟩; rw [hwy, hr]; clear hwy wy))
      refine (rtall_any (ht.kept kx)).mono ?_
      rintro r w3 ⟨v, rfl, hown, k3⟩
      obtain ⟨q, cp, rfl⟩ := hown.form
      have ky := kx.then k3
      have hT3 := ht.kept ky
      have hln := all_len T 16 0
      go_wp2_with (first | (refine wpList_built_is (by rfl) 50 #[] rfl none16.toArray (by kernel_rfl) ?_) | (refine wpList_store_mid rfl _ _ _ rfl b 0 none16.toArray rfl rfl (there16 hT3) ents_size' none_ones ?_))
      go_ret
      exact ⟨rfl, tl_none hT3, Kept.then ky (only_cells b none16.toArray.toList 0 _)⟩
end
end Go.Proofs.YtpfblbleendpiaaDoor
