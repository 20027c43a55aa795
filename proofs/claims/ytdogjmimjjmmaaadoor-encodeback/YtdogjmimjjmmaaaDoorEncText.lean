/-
  What package encode's Text answers: walked whole, for every instruction.
-/
import Derived.Test.YtdogjmimjjmmaaaDoorEncTell
import Derived.Test.YtdogjmimjjmmaaaDoorIsIn
import Derived.Test.YtdogjmimjjmmaaaDoorRefText
import Derived.Deep.RegionHeld3
import Derived.Laws.OwnMore
namespace Go.Proofs.YtdogjmimjjmmaaaDoor
open Go.RowKit
set_option maxRecDepth 100000 in
set_option maxHeartbeats 4000000 in
theorem names_any (w : World) :
    Calls Tryd.prog 65 #[] w fun e w' => e = .returned (.agg nmA) ∧ Grown w w' := by
  have hz := zero46
  go_enter Tryd.func65, Tryd.ntmps65
  go_wp2_with (first | refine wpList_build_to rfl 95 _ rfl nmA (by kernel_rfl) ?_ | (refine wpList_store_row rfl 95 _ _ rfl _ nmA rfl rfl 95 zsA (heap_alloc_last _ _) size46 same46 ones46 ?_; rw [World.setRow_alloc_new]))
  refine bodyPost_ret ?_ rfl ⟨rfl, (Grown.refl w).alloc nmA 95⟩
  exact results_cell_row rfl _ _ w.heap.size 95 nmA (0, 0) _ rfl (heap_alloc_last _ _) Tryd.underlying95 rfl size46
theorem idx46 {op : Int} (h0 : 0 ≤ op) (h1 : op < 70) (w : World) : (Instr.index 95 (.agg nmA) (.int .i64 op)).run Tryd.prog w = .ok (.string (nameS op)) w := by
  have hn := nm_at h0 h1
  simp [Instr.index, go_sem, hn]
  intro h
  exact absurd (h h0) (by omega)
set_option maxRecDepth 100000 in
set_option maxHeartbeats 1000000 in
theorem nameOf_any (op : Int) (w : World) :
    Calls Tryd.prog 46 #[.int .i64 op] w fun e w' => e = .returned (.string (nameS op)) ∧ Grown w w' := by
  by_cases h : op < 0 ∨ 70 ≤ op
  · have hb : belowB op 70 = false := by unfold belowB; simp; omega
    rw [name_out h]
    go_enter Tryd.func46, Tryd.ntmps46
    go_wp2_with (go_at_call 61; refine (below_any _ _ _).mono ?_; rintro e w' ⟨rfl, rfl⟩)
    go_ret
    exact ⟨rfl, Grown.refl _⟩
  · have h0 : 0 ≤ op := by omega
    have h1 : op < 70 := by omega
    have hb : belowB op 70 = true := by unfold belowB; simp; omega
    have hn := idx46 h0 h1
    go_enter Tryd.func46, Tryd.ntmps46
    go_wp2_with (first | (go_at_call 61; refine (below_any _ _ _).mono ?_; rintro e w' ⟨rfl, rfl⟩) | (go_at_call 65; refine (names_any _).mono ?_; rintro e w' ⟨rfl, hg⟩))
    go_ret
    exact ⟨rfl, hg⟩
theorem ename_any (op : Int) (w : World) :
    Calls Tryd.prog 25 #[.int .i64 op] w fun e w' => e = .returned (.string (bs (nameL op))) ∧ Grown w w' := by
  rw [← name_bs]
  go_enter Tryd.func25, Tryd.ntmps25
  go_wp2_with (go_at_call 46; refine (nameOf_any _ _).mono ?_; rintro e w' ⟨rfl, hg⟩)
  go_ret
  exact ⟨rfl, hg⟩
theorem join_own {w : World} {base g cap : Nat} (xs : List ByteArray) (hown : w.ownsRow base 9 1 (.slice (some ⟨g, 0, none⟩) xs.length cap) xs.length (xs.map Value.string)) (hlen : (Lib.join (xs.map (·.data.toList)) [44]).length ≤ 1000) (hN : xs.length ≤ 1000) :
    Calls Tryd.prog 28 #[.slice (some ⟨g, 0, none⟩) xs.length cap, .string ⟨#[44]⟩] w fun e w' => e = .returned (.string (bs (Lib.join (xs.map (·.data.toList)) [44]))) ∧ More w w' := by
  have hlt := (hown.lt g rfl).2
  have hcap : xs.length ≤ cap := by
    rcases hown.2 with ⟨h, _⟩ | ⟨_, c, _, hv, _, _, hc, _⟩
    · cases h
    · cases hv; exact hc
  exact (join_lib g 0 cap xs ⟨#[44]⟩ w (fun j x hx => by
    have hj : j < xs.length := (List.getElem?_eq_some_iff.1 hx).1
    rw [show 0 + j = j by omega, hown.cellAt j (by omega)]
    simp [hx]) hlt (by omega) hcap (by show (Lib.join (xs.map (·.data.toList)) [44]).length ≤ _; omega)).mono fun _ _ h => ⟨h.1, .of_below h.2⟩
structure MM (a b : World) : Prop where
  g : More a b
structure Rw (w : World) (v : Value) (xs : List ByteArray) : Prop where
  r : ∃ base : Nat, w.ownsRow base 9 1 v xs.length (xs.map Value.string)
set_option maxRecDepth 100000 in
set_option maxHeartbeats 1000000 in
theorem text4_no (op rd rs1 rs2 imm csr : Int) (h : isB op rd rs1 rs2 imm csr = false) (W : World) (hT : Tab4 W) :
    Calls Tryd.prog 12 #[.agg #[.int .i64 op, .int .i64 rd, .int .i64 rs1, .int .i64 rs2, .int .i64 imm, .int .i64 csr]] W fun e w' => e = .returned (.string (bs [])) ∧ More W w' := by
  have hT1 := hT.grown ((More.refl W).alloc #[.int .i64 op, .int .i64 rd, .int .i64 rs1, .int .i64 rs2, .int .i64 imm, .int .i64 csr] 23)
  go_enter Tryd.func12, Tryd.ntmps12
  go_wp2_with (go_at_call 17; refine (is_in _ _ _ _ _ _ _ hT1.i).mono ?_; rintro e w' ⟨rfl, hg⟩)
  go_ret
  exact ⟨rfl, More.trans' ((More.refl _).alloc _ _) (Grown.more hg)⟩
set_option maxRecDepth 100000 in
set_option maxHeartbeats 4000000 in
theorem text4_bare (op rd rs1 rs2 imm csr P : Int) (xs : List ByteArray) (hx : xs = []) (hP : prtE op = P) (ht : ∀ w : World, Tab4 w → Calls Tryd.prog 26 #[.agg #[.int .i64 op, .int .i64 rd, .int .i64 rs1, .int .i64 rs2, .int .i64 imm, .int .i64 csr], .int .i64 P] w fun e w' => ∃ (v : Value) (base : Nat), e = .returned v ∧ w'.ownsRow base 9 1 v xs.length (xs.map Value.string) ∧ More w w') (h : isB op rd rs1 rs2 imm csr = true) (W : World) (hT : Tab4 W) :
    Calls Tryd.prog 12 #[.agg #[.int .i64 op, .int .i64 rd, .int .i64 rs1, .int .i64 rs2, .int .i64 imm, .int .i64 csr]] W fun e w' => e = .returned (.string (bs (nameL op))) ∧ More W w' := by
  have hT1 := hT.grown ((More.refl W).alloc #[.int .i64 op, .int .i64 rd, .int .i64 rs1, .int .i64 rs2, .int .i64 imm, .int .i64 csr] 23)
  have hf : ∀ (a b c d : Value) (w : World), (Instr.field 55 (.agg #[a, b, c, d]) 3).run Tryd.prog w = .ok d w := fun _ _ _ _ _ => by kernel_rfl
  have hop : Hid (1 ≤ op ∧ op ≤ 69) := cls_of_is h
  have kd : ∀ {w : World}, MM (W.alloc (.cells #[.int .i64 op, .int .i64 rd, .int .i64 rs1, .int .i64 rs2, .int .i64 imm, .int .i64 csr] 23)) w → Calls Tryd.prog 27 #[.int .i64 op] w fun e w' => e = .returned (.agg #[.int .i64 (kN (kOf op) 0), .int .i64 (kN (kOf op) 1), .int .u8 (opcE op), .int .i64 P]) ∧ MM (W.alloc (.cells #[.int .i64 op, .int .i64 rd, .int .i64 rs1, .int .i64 rs2, .int .i64 imm, .int .i64 csr] 23)) w' := fun q => by
    rw [← hP]
    exact (kind_any op hop.out.1 hop.out.2 _ (hT1.grown q.g).k).mono fun _ _ k => ⟨k.1, ⟨More.trans' q.g (Grown.more k.2)⟩⟩
  have td : ∀ {w : World}, MM (W.alloc (.cells #[.int .i64 op, .int .i64 rd, .int .i64 rs1, .int .i64 rs2, .int .i64 imm, .int .i64 csr] 23)) w → Calls Tryd.prog 26 #[.agg #[.int .i64 op, .int .i64 rd, .int .i64 rs1, .int .i64 rs2, .int .i64 imm, .int .i64 csr], .int .i64 P] w fun e w' => ∃ v, e = .returned v ∧ Rw w' v xs ∧ MM (W.alloc (.cells #[.int .i64 op, .int .i64 rd, .int .i64 rs1, .int .i64 rs2, .int .i64 imm, .int .i64 csr] 23)) w' := fun q => (ht _ (hT1.grown q.g)).mono fun _ _ ⟨v, base, a, b, c⟩ => ⟨v, a, ⟨base, b⟩, ⟨More.trans' q.g c⟩⟩
  clear ht hP
  go_enter Tryd.func12, Tryd.ntmps12
  go_wp2_with (first | (go_at_call 17; refine (is_in _ _ _ _ _ _ _ hT1.i).mono ?_; rintro e w1 ⟨rfl, hg⟩; obtain ⟨c0, c1, c2, c3, c4, c5⟩ := six_m (Grown.more hg)) | (go_at_call 25; refine (ename_any _ _).mono ?_; rintro e w2 ⟨rfl, hg2⟩))
  have hq : MM (W.alloc (.cells #[.int .i64 op, .int .i64 rd, .int .i64 rs1, .int .i64 rs2, .int .i64 imm, .int .i64 csr] 23)) w2.drew := ⟨More.trans' (Grown.more hg) (Grown.more hg2)⟩
  clear hg hg2 c0 c1 c2 c3 c4 c5
  go_region_held3 (fun w' => MM (W.alloc (.cells #[.int .i64 op, .int .i64 rd, .int .i64 rs1, .int .i64 rs2, .int .i64 imm, .int .i64 csr] 23)) w' ∧ w'.cell? ⟨W.heap.size, 0, none⟩ = some (.int .i64 op) ∧ w'.cell? ⟨W.heap.size, 1, none⟩ = some (.int .i64 rd) ∧ w'.cell? ⟨W.heap.size, 2, none⟩ = some (.int .i64 rs1) ∧ w'.cell? ⟨W.heap.size, 3, none⟩ = some (.int .i64 rs2) ∧ w'.cell? ⟨W.heap.size, 4, none⟩ = some (.int .i64 imm) ∧ w'.cell? ⟨W.heap.size, 5, none⟩ = some (.int .i64 csr)) (exact ⟨hq, six_m hq.g⟩) (first | (go_at_call 27; refine (kd (by assumption)).mono ?_; rintro e w' ⟨rfl, hq⟩) | (go_at_call 26; refine (td (by assumption)).mono ?_; rintro e w' ⟨v, rfl, hrow, hq⟩))
  obtain ⟨base, hown⟩ := hrow.r
  have hv : v = .slice none 0 0 ∨ ∃ g cap, v = .slice (some ⟨g, 0, none⟩) 0 cap := by
    rcases hown.2 with ⟨hv, _⟩ | ⟨g, cap, _, hv, _⟩
    · exact .inl hv
    · exact .inr ⟨g, cap, by rw [hv, hx]; rfl⟩
  rcases hv with rfl | ⟨g, cap, rfl⟩
  all_goals
    go_wp2_with fail
    go_ret
    exact ⟨rfl, More.trans' ((More.refl _).alloc _ _) hq.g⟩
set_option maxRecDepth 100000 in
set_option maxHeartbeats 4000000 in
theorem text4_some (op rd rs1 rs2 imm csr P : Int) (xs : List ByteArray) (n : Nat) (hn : xs.length = n) (hn0 : 0 < n) (hn1 : n < 1000) (J : List UInt8) (hJ : Lib.join (xs.map (·.data.toList)) [44] = J) (hJ1 : J.length ≤ 200) (hP : prtE op = P) (ht : ∀ w : World, Tab4 w → Calls Tryd.prog 26 #[.agg #[.int .i64 op, .int .i64 rd, .int .i64 rs1, .int .i64 rs2, .int .i64 imm, .int .i64 csr], .int .i64 P] w fun e w' => ∃ (v : Value) (base : Nat), e = .returned v ∧ w'.ownsRow base 9 1 v xs.length (xs.map Value.string) ∧ More w w') (h : isB op rd rs1 rs2 imm csr = true) (W : World) (hT : Tab4 W) :
    Calls Tryd.prog 12 #[.agg #[.int .i64 op, .int .i64 rd, .int .i64 rs1, .int .i64 rs2, .int .i64 imm, .int .i64 csr]] W fun e w' => e = .returned (.string (bs (nameL op ++ 32 :: J))) ∧ More W w' := by
  have hnl := name_len op
  have y1 : ∀ w : World, (Op.stringOp .add (bs (nameL op)) ⟨#[32]⟩).run Tryd.prog w = .ok (.string (bs (nameL op ++ [32]))) w := add_bs Tryd.prog (nameL op) [32] (by simp; omega)
  have y2 : ∀ w : World, (Op.stringOp .add (bs (nameL op ++ [32])) (bs J)).run Tryd.prog w = .ok (.string (bs (nameL op ++ 32 :: J))) w := by
    rw [show nameL op ++ 32 :: J = nameL op ++ [32] ++ J by simp]
    exact add_bs Tryd.prog _ _ (by simp; omega)
  have jd : ∀ {w : World} {g cap : Nat}, Rw w (.slice (some ⟨g, 0, none⟩) n cap) xs → Calls Tryd.prog 28 #[.slice (some ⟨g, 0, none⟩) n cap, .string ⟨#[44]⟩] w fun e w' => e = .returned (.string (bs J)) ∧ More w w' := fun q => by
    obtain ⟨base, b⟩ := q.r
    subst hn
    have := join_own xs b (by rw [hJ]; omega) (by omega)
    rw [hJ] at this
    exact this
  have hn2 : ((n : Int) == 0) = false := beq_eq_false_iff_ne.2 (by omega)
  have form : ∀ {w : World} {v : Value}, Rw w v xs → ∃ g cap, v = .slice (some ⟨g, 0, none⟩) n cap := fun q => by
    obtain ⟨base, b⟩ := q.r
    obtain ⟨g, cap, e, _⟩ := b.form (by omega)
    exact ⟨g, cap, by rw [e, hn]⟩
  clear hJ hJ1 hnl hn hn1
  have hT1 := hT.grown ((More.refl W).alloc #[.int .i64 op, .int .i64 rd, .int .i64 rs1, .int .i64 rs2, .int .i64 imm, .int .i64 csr] 23)
  have hf : ∀ (a b c d : Value) (w : World), (Instr.field 55 (.agg #[a, b, c, d]) 3).run Tryd.prog w = .ok d w := fun _ _ _ _ _ => by kernel_rfl
  have hop : Hid (1 ≤ op ∧ op ≤ 69) := cls_of_is h
  have kd : ∀ {w : World}, MM (W.alloc (.cells #[.int .i64 op, .int .i64 rd, .int .i64 rs1, .int .i64 rs2, .int .i64 imm, .int .i64 csr] 23)) w → Calls Tryd.prog 27 #[.int .i64 op] w fun e w' => e = .returned (.agg #[.int .i64 (kN (kOf op) 0), .int .i64 (kN (kOf op) 1), .int .u8 (opcE op), .int .i64 P]) ∧ MM (W.alloc (.cells #[.int .i64 op, .int .i64 rd, .int .i64 rs1, .int .i64 rs2, .int .i64 imm, .int .i64 csr] 23)) w' := fun q => by
    rw [← hP]
    exact (kind_any op hop.out.1 hop.out.2 _ (hT1.grown q.g).k).mono fun _ _ k => ⟨k.1, ⟨More.trans' q.g (Grown.more k.2)⟩⟩
  have td : ∀ {w : World}, MM (W.alloc (.cells #[.int .i64 op, .int .i64 rd, .int .i64 rs1, .int .i64 rs2, .int .i64 imm, .int .i64 csr] 23)) w → Calls Tryd.prog 26 #[.agg #[.int .i64 op, .int .i64 rd, .int .i64 rs1, .int .i64 rs2, .int .i64 imm, .int .i64 csr], .int .i64 P] w fun e w' => ∃ v, e = .returned v ∧ Rw w' v xs ∧ MM (W.alloc (.cells #[.int .i64 op, .int .i64 rd, .int .i64 rs1, .int .i64 rs2, .int .i64 imm, .int .i64 csr] 23)) w' := fun q => (ht _ (hT1.grown q.g)).mono fun _ _ ⟨v, base, a, b, c⟩ => ⟨v, a, ⟨base, b⟩, ⟨More.trans' q.g c⟩⟩
  clear ht hP
  go_enter Tryd.func12, Tryd.ntmps12
  go_wp2_with (first | (go_at_call 17; refine (is_in _ _ _ _ _ _ _ hT1.i).mono ?_; rintro e w1 ⟨rfl, hg⟩; obtain ⟨c0, c1, c2, c3, c4, c5⟩ := six_m (Grown.more hg)) | (go_at_call 25; refine (ename_any _ _).mono ?_; rintro e w2 ⟨rfl, hg2⟩))
  have hq : MM (W.alloc (.cells #[.int .i64 op, .int .i64 rd, .int .i64 rs1, .int .i64 rs2, .int .i64 imm, .int .i64 csr] 23)) w2.drew := ⟨More.trans' (Grown.more hg) (Grown.more hg2)⟩
  clear hg hg2 c0 c1 c2 c3 c4 c5
  go_region_held3 (fun w' => MM (W.alloc (.cells #[.int .i64 op, .int .i64 rd, .int .i64 rs1, .int .i64 rs2, .int .i64 imm, .int .i64 csr] 23)) w' ∧ w'.cell? ⟨W.heap.size, 0, none⟩ = some (.int .i64 op) ∧ w'.cell? ⟨W.heap.size, 1, none⟩ = some (.int .i64 rd) ∧ w'.cell? ⟨W.heap.size, 2, none⟩ = some (.int .i64 rs1) ∧ w'.cell? ⟨W.heap.size, 3, none⟩ = some (.int .i64 rs2) ∧ w'.cell? ⟨W.heap.size, 4, none⟩ = some (.int .i64 imm) ∧ w'.cell? ⟨W.heap.size, 5, none⟩ = some (.int .i64 csr)) (exact ⟨hq, six_m hq.g⟩) (first | (go_at_call 27; refine (kd (by assumption)).mono ?_; rintro e w' ⟨rfl, hq⟩) | (go_at_call 26; refine (td (by assumption)).mono ?_; rintro e w' ⟨v, rfl, hrow, hq⟩))
  obtain ⟨g, cap, rfl⟩ := form hrow
  go_wp2_with (go_at_call 28; refine (jd hrow).mono ?_; rintro e w3 ⟨rfl, hg3⟩)
  go_ret
  exact ⟨rfl, More.trans' ((More.refl _).alloc _ _) (More.trans' hq.g hg3)⟩
theorem prt_has (op : Int) (h0 : 1 ≤ op) (h1 : op ≤ 69) : prtE op = cond (hasRd op) 1 0 + cond (hasCsr op) 2 0 + cond (hasRs1 op) 4 0 + cond (hasRs2 op) 8 0 + cond (hasNum op) 16 0 :=
  op_cases (p := fun op => 1 ≤ op ∧ op ≤ 69 → prtE op = cond (hasRd op) 1 0 + cond (hasCsr op) 2 0 + cond (hasRs1 op) 4 0 + cond (hasRs2 op) 8 0 + cond (hasNum op) 16 0) (by decide +kernel) (fun op h a => by omega) op ⟨h0, h1⟩
theorem text4_yes (op rd rs1 rs2 imm csr : Int) (h : isB op rd rs1 rs2 imm csr = true) (W : World) (hT : Tab4 W) :
    Calls Tryd.prog 12 #[.agg #[.int .i64 op, .int .i64 rd, .int .i64 rs1, .int .i64 rs2, .int .i64 imm, .int .i64 csr]] W fun e w' => e = .returned (.string (bs (txtL op rd rs1 rs2 imm csr))) ∧ More W w' := by
  obtain ⟨h0, h1⟩ := cls_of_is h
  have hp := prt_has op h0 h1
  obtain ⟨b1, b2, b3, b4, b5⟩ := text_bounds h
  have i1 : inI rd := ⟨by omega, by omega⟩
  have i2 : inI csr := ⟨by omega, by omega⟩
  have i3 : inI rs1 := ⟨by omega, by omega⟩
  have i4 : inI rs2 := ⟨by omega, by omega⟩
  have i5 : inI imm := ⟨by omega, by omega⟩
  have l1 := dgI_len rd
  have l2 := dgI_len csr
  have l3 := dgI_len rs1
  have l4 := dgI_len rs2
  have l5 := dgI_len imm
  rcases has_ways op with ⟨p1, p4, p2, p3, p5⟩ | ⟨p1, p4, p2, p3, p5⟩ | ⟨p1, p4, p2, p3, p5⟩ | ⟨p1, p4, p2, p3, p5⟩ | ⟨p1, p4, p2, p3, p5⟩ | ⟨p1, p4, p2, p3, p5⟩ | ⟨p1, p4, p2, p3, p5⟩ | ⟨p1, p4, p2, p3, p5⟩ | ⟨p1, p4, p2, p3, p5⟩
  · have e : prtE op = 17 := by rw [hp, p1, p2, p3, p4, p5]; rfl
    have ht : tailL op rd rs1 rs2 imm csr = 44 :: (120 :: (dgI rd ++ 44 :: (dgI imm))) := by
      unfold tailL partR partN
      rw [p1, p2, p3, p4, p5]
      simp
    rw [show txtL op rd rs1 rs2 imm csr = nameL op ++ 32 :: (120 :: (dgI rd ++ 44 :: (dgI imm))) by unfold txtL; rw [ht, if_neg (by simp)]; rfl]
    exact text4_some op rd rs1 rs2 imm csr 17 [bs (120 :: dgI rd), bs (dgI imm)] 2 rfl (by decide) (by decide) _ (by simp [Lib.join_cons, Lib.joinTail, bs]) (by simp; omega) e (fun w hw => (tell_17 op rd rs1 rs2 imm csr i1 i2 i3 i4 i5 w hw).mono fun _ _ ⟨v, a, b, c⟩ => ⟨v, _, a, b, c⟩) h W hT
  · have e : prtE op = 21 := by rw [hp, p1, p2, p3, p4, p5]; rfl
    have ht : tailL op rd rs1 rs2 imm csr = 44 :: (120 :: (dgI rd ++ 44 :: (120 :: (dgI rs1 ++ 44 :: (dgI imm))))) := by
      unfold tailL partR partN
      rw [p1, p2, p3, p4, p5]
      simp
    rw [show txtL op rd rs1 rs2 imm csr = nameL op ++ 32 :: (120 :: (dgI rd ++ 44 :: (120 :: (dgI rs1 ++ 44 :: (dgI imm))))) by unfold txtL; rw [ht, if_neg (by simp)]; rfl]
    exact text4_some op rd rs1 rs2 imm csr 21 [bs (120 :: dgI rd), bs (120 :: dgI rs1), bs (dgI imm)] 3 rfl (by decide) (by decide) _ (by simp [Lib.join_cons, Lib.joinTail, bs]) (by simp; omega) e (fun w hw => (tell_21 op rd rs1 rs2 imm csr i1 i2 i3 i4 i5 w hw).mono fun _ _ ⟨v, a, b, c⟩ => ⟨v, _, a, b, c⟩) h W hT
  · have e : prtE op = 28 := by rw [hp, p1, p2, p3, p4, p5]; rfl
    have ht : tailL op rd rs1 rs2 imm csr = 44 :: (120 :: (dgI rs1 ++ 44 :: (120 :: (dgI rs2 ++ 44 :: (dgI imm))))) := by
      unfold tailL partR partN
      rw [p1, p2, p3, p4, p5]
      simp
    rw [show txtL op rd rs1 rs2 imm csr = nameL op ++ 32 :: (120 :: (dgI rs1 ++ 44 :: (120 :: (dgI rs2 ++ 44 :: (dgI imm))))) by unfold txtL; rw [ht, if_neg (by simp)]; rfl]
    exact text4_some op rd rs1 rs2 imm csr 28 [bs (120 :: dgI rs1), bs (120 :: dgI rs2), bs (dgI imm)] 3 rfl (by decide) (by decide) _ (by simp [Lib.join_cons, Lib.joinTail, bs]) (by simp; omega) e (fun w hw => (tell_28 op rd rs1 rs2 imm csr i1 i2 i3 i4 i5 w hw).mono fun _ _ ⟨v, a, b, c⟩ => ⟨v, _, a, b, c⟩) h W hT
  · have e : prtE op = 13 := by rw [hp, p1, p2, p3, p4, p5]; rfl
    have ht : tailL op rd rs1 rs2 imm csr = 44 :: (120 :: (dgI rd ++ 44 :: (120 :: (dgI rs1 ++ 44 :: (120 :: dgI rs2))))) := by
      unfold tailL partR partN
      rw [p1, p2, p3, p4, p5]
      simp
    rw [show txtL op rd rs1 rs2 imm csr = nameL op ++ 32 :: (120 :: (dgI rd ++ 44 :: (120 :: (dgI rs1 ++ 44 :: (120 :: dgI rs2))))) by unfold txtL; rw [ht, if_neg (by simp)]; rfl]
    exact text4_some op rd rs1 rs2 imm csr 13 [bs (120 :: dgI rd), bs (120 :: dgI rs1), bs (120 :: dgI rs2)] 3 rfl (by decide) (by decide) _ (by simp [Lib.join_cons, Lib.joinTail, bs]) (by simp; omega) e (fun w hw => (tell_13 op rd rs1 rs2 imm csr i1 i2 i3 i4 i5 w hw).mono fun _ _ ⟨v, a, b, c⟩ => ⟨v, _, a, b, c⟩) h W hT
  · have e : prtE op = 0 := by rw [hp, p1, p2, p3, p4, p5]; rfl
    have ht : tailL op rd rs1 rs2 imm csr = [] := by
      unfold tailL partR partN
      rw [p1, p2, p3, p4, p5]
      simp
    rw [show txtL op rd rs1 rs2 imm csr = nameL op by unfold txtL; rw [if_pos ht]]
    exact text4_bare op rd rs1 rs2 imm csr 0 [] rfl e (fun w hw => (tell_0 op rd rs1 rs2 imm csr i1 i2 i3 i4 i5 w hw).mono fun _ _ ⟨v, a, b, c⟩ => ⟨v, _, a, b, c⟩) h W hT
  · have e : prtE op = 7 := by rw [hp, p1, p2, p3, p4, p5]; rfl
    have ht : tailL op rd rs1 rs2 imm csr = 44 :: (120 :: (dgI rd ++ 44 :: (dgI csr ++ 44 :: (120 :: dgI rs1)))) := by
      unfold tailL partR partN
      rw [p1, p2, p3, p4, p5]
      simp
    rw [show txtL op rd rs1 rs2 imm csr = nameL op ++ 32 :: (120 :: (dgI rd ++ 44 :: (dgI csr ++ 44 :: (120 :: dgI rs1)))) by unfold txtL; rw [ht, if_neg (by simp)]; rfl]
    exact text4_some op rd rs1 rs2 imm csr 7 [bs (120 :: dgI rd), bs (dgI csr), bs (120 :: dgI rs1)] 3 rfl (by decide) (by decide) _ (by simp [Lib.join_cons, Lib.joinTail, bs]) (by simp; omega) e (fun w hw => (tell_7 op rd rs1 rs2 imm csr i1 i2 i3 i4 i5 w hw).mono fun _ _ ⟨v, a, b, c⟩ => ⟨v, _, a, b, c⟩) h W hT
  · have e : prtE op = 19 := by rw [hp, p1, p2, p3, p4, p5]; rfl
    have ht : tailL op rd rs1 rs2 imm csr = 44 :: (120 :: (dgI rd ++ 44 :: (dgI csr ++ 44 :: (dgI imm)))) := by
      unfold tailL partR partN
      rw [p1, p2, p3, p4, p5]
      simp
    rw [show txtL op rd rs1 rs2 imm csr = nameL op ++ 32 :: (120 :: (dgI rd ++ 44 :: (dgI csr ++ 44 :: (dgI imm)))) by unfold txtL; rw [ht, if_neg (by simp)]; rfl]
    exact text4_some op rd rs1 rs2 imm csr 19 [bs (120 :: dgI rd), bs (dgI csr), bs (dgI imm)] 3 rfl (by decide) (by decide) _ (by simp [Lib.join_cons, Lib.joinTail, bs]) (by simp; omega) e (fun w hw => (tell_19 op rd rs1 rs2 imm csr i1 i2 i3 i4 i5 w hw).mono fun _ _ ⟨v, a, b, c⟩ => ⟨v, _, a, b, c⟩) h W hT
  · have e : prtE op = 12 := by rw [hp, p1, p2, p3, p4, p5]; rfl
    have ht : tailL op rd rs1 rs2 imm csr = 44 :: (120 :: (dgI rs1 ++ 44 :: (120 :: dgI rs2))) := by
      unfold tailL partR partN
      rw [p1, p2, p3, p4, p5]
      simp
    rw [show txtL op rd rs1 rs2 imm csr = nameL op ++ 32 :: (120 :: (dgI rs1 ++ 44 :: (120 :: dgI rs2))) by unfold txtL; rw [ht, if_neg (by simp)]; rfl]
    exact text4_some op rd rs1 rs2 imm csr 12 [bs (120 :: dgI rs1), bs (120 :: dgI rs2)] 2 rfl (by decide) (by decide) _ (by simp [Lib.join_cons, Lib.joinTail, bs]) (by simp; omega) e (fun w hw => (tell_12 op rd rs1 rs2 imm csr i1 i2 i3 i4 i5 w hw).mono fun _ _ ⟨v, a, b, c⟩ => ⟨v, _, a, b, c⟩) h W hT
  · have e : prtE op = 5 := by rw [hp, p1, p2, p3, p4, p5]; rfl
    have ht : tailL op rd rs1 rs2 imm csr = 44 :: (120 :: (dgI rd ++ 44 :: (120 :: dgI rs1))) := by
      unfold tailL partR partN
      rw [p1, p2, p3, p4, p5]
      simp
    rw [show txtL op rd rs1 rs2 imm csr = nameL op ++ 32 :: (120 :: (dgI rd ++ 44 :: (120 :: dgI rs1))) by unfold txtL; rw [ht, if_neg (by simp)]; rfl]
    exact text4_some op rd rs1 rs2 imm csr 5 [bs (120 :: dgI rd), bs (120 :: dgI rs1)] 2 rfl (by decide) (by decide) _ (by simp [Lib.join_cons, Lib.joinTail, bs]) (by simp; omega) e (fun w hw => (tell_5 op rd rs1 rs2 imm csr i1 i2 i3 i4 i5 w hw).mono fun _ _ ⟨v, a, b, c⟩ => ⟨v, _, a, b, c⟩) h W hT
theorem text4_any (op rd rs1 rs2 imm csr : Int) (w : World) (hT : Tab4 w) :
    Calls Tryd.prog 12 #[.agg #[.int .i64 op, .int .i64 rd, .int .i64 rs1, .int .i64 rs2, .int .i64 imm, .int .i64 csr]] w fun e w' => e = .returned (.string (bs (tS op rd rs1 rs2 imm csr))) ∧ More w w' := by
  cases h : isB op rd rs1 rs2 imm csr
  · rw [(e_no h).2.2]
    exact text4_no op rd rs1 rs2 imm csr h w hT
  · rw [(e_yes h).2.2]
    exact text4_yes op rd rs1 rs2 imm csr h w hT
end Go.Proofs.YtdogjmimjjmmaaaDoor
