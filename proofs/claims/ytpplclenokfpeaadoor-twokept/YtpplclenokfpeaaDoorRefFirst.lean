/-
  The first table's walk of a translation, as the document's own call answers (first of the reference): walked whole, for every argument.
-/
import Derived.Test.YtpplclenokfpeaaDoorTwoAl
namespace Go.Proofs.YtpplclenokfpeaaDoor
open Go.RowKit
/-- What a translation has told so far. -/
def fndA (at_ : Int) (e : EntM) (f : FltM) (ok : Bool) (t : Value) : Array Value :=
  #[.int .u64 at_, .bool e.valid, .bool e.v, .int .i64 e.page, .int .i64 e.asid, .int .i64 e.vmid, .int .i64 e.frame, .int .i64 e.bits, .int .i64 e.host, .int .i64 e.guest, .int .u64 f.cause, .int .u64 f.value, .int .u64 f.place, .bool f.gva, .bool ok, t]
/-- The room that a translation works in (fb), an asking of the call's own (at w0's end), a slice of the call's own. -/
structure FR (w0 w : World) (fb : Nat) (a : AskM) (at_ : Int) (e : EntM) (f : FltM) (ok : Bool) (t : Value) (n : Nat) : Prop where
  k : Only (fun i => i = fb) w0 w
  l : w.heap[fb]? = some (.cells (fndA at_ e f ok t) 43 (0, 0))
  b : w.heap[w0.heap.size]? = some (.cells (askA a) 46 (0, 0))
  o : OwnT (w0.heap.size + 1) n w t
  lt : fb < w0.heap.size
section
variable {w0 w w' : World} {fb : Nat} {a : AskM} {at_ : Int} {e : EntM} {f : FltM} {ok : Bool} {t : Value} {n : Nat}
theorem FR.kept (h : FR w0 w fb a at_ e f ok t n) (g : Kept w w') : FR w0 w' fb a at_ e f ok t n :=
  ⟨h.k.then g, g.block h.l id, g.block h.b id, h.o.kept g, h.lt⟩
theorem FR.size (h : FR w0 w fb a at_ e f ok t n) : w0.heap.size + 1 ≤ w.heap.size := (Array.getElem?_eq_some_iff.1 h.b).1
/-- Behind an append: the new slice isn't stored yet. -/
theorem FR.app (h : FR w0 w fb a at_ e f ok t n) {o : Option Nat} (g : Only (fun i => w0.heap.size + 1 ≤ i ∧ o = some i) w w') : Only (fun i => i = fb) w0 w' ∧ w'.heap[fb]? = some (.cells (fndA at_ e f ok t) 43 (0, 0)) ∧ w'.heap[w0.heap.size]? = some (.cells (askA a) 46 (0, 0)) :=
  ⟨h.k.new g fun i hi => by omega, g.block h.l fun x => by have := h.lt; omega, g.block h.b fun x => by omega⟩
theorem fb_set {cs : Array Value} (hl : w.heap[fb]? = some (.cells cs 43 (0, 0))) (i : Nat) (v : Value) : (w.setCell ⟨fb, i, none⟩ v).heap[fb]? = some (.cells (cs.setIfInBounds i v) 43 (0, 0)) := by
  show (w.heap.modify fb _)[fb]? = _
  rw [Array.getElem?_modify, if_pos rfl, hl]
  rfl
theorem fb_cell {cs : Array Value} (hl : w.heap[fb]? = some (.cells cs 43 (0, 0))) (i : Nat) : w.cell? ⟨fb, i, none⟩ = cs[i]? := by
  simp [World.cell?, hl]
theorem fb_loose {cs : Array Value} (hl : w.heap[fb]? = some (.cells cs 43 (0, 0))) (i : Nat) : w.frozen? ⟨fb, i, none⟩ = false := by
  simp [World.frozen?, hl]
/-- Another cell of the room. -/
theorem FR.put (h : FR w0 w fb a at_ e f ok t n) (i : Nat) (v : Value) {at2 : Int} {e2 : EntM} {f2 : FltM} {ok2 : Bool} (hc : (fndA at_ e f ok t).setIfInBounds i v = fndA at2 e2 f2 ok2 t) : FR w0 (w.setCell ⟨fb, i, none⟩ v) fb a at2 e2 f2 ok2 t n := by
  have ho := Only.setCell (Only.refl (fun j => j = fb) w) (x := ⟨fb, i, none⟩) rfl v
  have hlt := h.lt
  refine ⟨h.k.trans ho, by rw [← hc]; exact fb_set h.l i v, ho.block h.b (by omega), h.o.past ho fun i hi => by omega, h.lt⟩
/-- The new slice stored. -/
theorem FR.lay (h : FR w0 w fb a at_ e f ok t n) {o : Option Nat} (g : Only (fun i => w0.heap.size + 1 ≤ i ∧ o = some i) w w') {t2 : Value} {m : Nat} (ho2 : OwnT (w0.heap.size + 1) m w' t2) : FR w0 (w'.setCell ⟨fb, 15, none⟩ t2) fb a at_ e f ok t2 m := by
  obtain ⟨h1, h2, h3⟩ := h.app g
  have ho := Only.setCell (Only.refl (fun j => j = fb) w') (x := ⟨fb, 15, none⟩) rfl t2
  have hlt := h.lt
  exact ⟨h1.trans ho, fb_set h2 15 t2, ho.block h3 (by omega), ho2.past ho fun i hi => by omega, h.lt⟩
end
theorem fb_cell' {w : World} {g : Nat} {cs : Array Value} {T : TypeId} (hl : w.heap[g]? = some (.cells cs T (0, 0))) (i : Nat) : w.cell? ⟨g, i, none⟩ = cs[i]? := by
  simp [World.cell?, hl]
theorem ask_cells {w : World} {g : Nat} {a : AskM} (h : w.heap[g]? = some (.cells (askA a) 46 (0, 0))) : w.cell? ⟨g, 0, none⟩ = some (.bool a.first) ∧ w.cell? ⟨g, 1, none⟩ = some (.bool a.second) ∧ w.cell? ⟨g, 2, none⟩ = some (.bool a.sum) ∧ w.cell? ⟨g, 3, none⟩ = some (.bool a.mxr) ∧ w.cell? ⟨g, 4, none⟩ = some (.int .i64 a.asid) ∧ w.cell? ⟨g, 5, none⟩ = some (.int .i64 a.vmid) ∧ w.cell? ⟨g, 6, none⟩ = some (.int .i64 a.root) ∧ w.cell? ⟨g, 7, none⟩ = some (.int .i64 a.host) :=
  ⟨fb_cell' h 0, fb_cell' h 1, fb_cell' h 2, fb_cell' h 3, fb_cell' h 4, fb_cell' h 5, fb_cell' h 6, fb_cell' h 7⟩
theorem gst_bd {B : Nat → Int} (hB : ∀ i, i < 32768 → 0 ≤ B i ∧ B i < 256) (a : AskM) (place k : Int) (exec : Bool) (h : 0 ≤ place) : 0 ≤ (gstS B a place k exec).p ∧ (gstS B a place k exec).p < 65536 ∧ ((gstS B a place k exec).c = 0 ∨ (gstS B a place k exec).c = 1 ∨ (gstS B a place k exec).c = 2) := by
  obtain ⟨u0, u1, u2, u3, u4⟩ := wk_U hB a.host place
  unfold gstS
  split
  · exact ⟨by simp, by simp, .inr (.inl rfl)⟩
  · split
    · exact ⟨h, by simp only; omega, .inl rfl⟩
    · split
      · exact ⟨by simp, by simp, u4⟩
      · split
        · exact ⟨by simp, by simp, .inr (.inl rfl)⟩
        · exact ⟨by simp only; omega, by simp only; omega, .inl rfl⟩
theorem code_zero8 {a : Int} (h : codeI a 8 = 0) : True ∧ a % 8 = 0 ∧ a < 32768 := by
  unfold codeI at h
  split at h
  · cases h
  · split at h
    · cases h
    · refine ⟨trivial, ?_, ?_⟩ <;> omega
set_option maxRecDepth 100000 in
set_option maxHeartbeats 8000000 in
theorem rfirst_any (a : AskM) (at_ k : Int) (hk : k = 0 ∨ k = 1 ∨ k = 2) (_at0 : 0 ≤ at_) (rt0 : 0 ≤ a.root) (rt1 : a.root < 256) (A av : Int) (E : EntM) (gva ok : Bool) {w : World} {p q fb : Nat} {B : Nat → Int} (hm : RefAt w p q B) (hpf : ¬ p = fb) (hqf : ¬ q = fb)
    (hf : w.heap[fb]? = some (.cells (fndA A E ⟨0, av, 0, gva⟩ ok (.slice none 0 0)) 43 (0, 0))) :
    Calls Tryd.prog 34 #[.pointer (some ⟨p, 0, none⟩), .agg (askA a), .int .u64 at_, .int .i64 k, .pointer (some ⟨fb, 0, none⟩)] w fun e w' => ∃ t, e = .returned (.tuple #[.int .u64 (fstS B a at_ k).e, .int .i64 (fstS B a at_ k).frame, .bool (fstS B a at_ k).ok]) ∧ w'.heap[fb]? = some (.cells (fndA A E ⟨(fstS B a at_ k).cause, av, (fstS B a at_ k).place, gva⟩ ok t) 43 (0, 0)) ∧ OwnT w.heap.size 6 w' t ∧ Only (fun i => i = fb) w w' := by
  have e1 : bits .and .u64 (at_ / 4096) 15 = topI at_ := u_low (at_ / 4096) 4 (by omega) 15 rfl
  have e2 : bits .and .u64 (at_ / 256) 15 = lowI at_ := u_low (at_ / 256) 4 (by omega) 15 rfl
  obtain ⟨t0, t1⟩ := top_bd at_
  obtain ⟨l0, l1⟩ := low_bd at_
  have hlt : fb < w.heap.size := (Array.getElem?_eq_some_iff.1 hf).1
  have hk0 := (Only.refl (fun _ => False) w).alloc (.cells (askA a) 46)
  have rr : FR w (w.alloc (.cells (askA a) 46)) fb a A E ⟨0, av, 0, gva⟩ ok (.slice none 0 0) 0 := ⟨hk0.mono fun _ x => x.elim, hk0.block hf id, alloc_last w _ _, ownT_nil _ _ _, hlt⟩
  clear hk0
  go_enter Tryd.func34, Tryd.ntmps34
  have y6 : (w.alloc (.cells (askA a) 46)).cell? ⟨w.heap.size, 6, none⟩ = some (.int .i64 a.root) := fb_cell' rr.b 6
  go_wp2
  clear y6
  go_loopw [13, 14] (fun fr st wr => (∃ t, fr = .int .i64 a.root ∧ st = .int .i64 0 ∧ FR w wr fb a A E ⟨0, av, 0, gva⟩ ok t 0) ∨ (∃ t, fr = .int .i64 (frI (stpS B a a.root (topI at_) k).e) ∧ st = .int .i64 1 ∧ FR w wr fb a A E ⟨0, av, 0, gva⟩ ok t 3 ∧ (stpS B a a.root (topI at_) k).ok = true ∧ isE (stpS B a a.root (topI at_) k).e = true ∧ leafE (stpS B a a.root (topI at_) k).e = false)) (fun _ i _ => 2 - (intOf i).toNat)
  case atStart => exact .inl ⟨_, rfl, rfl, rr⟩
  case round =>
    clear rr
    rcases hrel with ⟨t, rfl, rfl, r0⟩ | ⟨t, rfl, rfl, r0, hs0, hs1, hs2⟩
    · have m0 := hm.carry r0.k hpf hqf
      have hPL : 0 ≤ (a.root * 256 + 8 * topI at_) := by omega
      have hPM : (a.root * 256 + 8 * topI at_) < 65536 := by omega
      obtain ⟨gp0, gp1, gc⟩ := gst_bd hm.byte a (a.root * 256 + 8 * topI at_) 1 false hPL
      obtain ⟨b0, b1, b2, b3, b4, b5, b6, b7⟩ := ask_cells r0.b
      go_wp2_with fail
      refine (rguest_any a (a.root * 256 + 8 * topI at_) 1 false m0).mono ?_
      rintro e w1 ⟨tv, rfl, ot, k1⟩
      obtain ⟨tq, tn, tc, rfl⟩ := ot.form
      have r1 := r0.kept k1
      have hsz := r1.size
      have y15 : w1.cell? ⟨fb, 15, none⟩ = some t := fb_cell r1.l 15
      generalize hG : gstS B a (a.root * 256 + 8 * topI at_) 1 false = G at *
      rcases gc with hc | hc | hc
      · rw [hc]
        go_upto_region 14 with (at_builtin; refine wpList_appT rfl _ _ rfl rfl r1.o rfl ot (by omega) hsz ?_; intro b2 n2 c2 w2 o2 g2; have hl2 := r1.app g2; have z15 : w2.cell? ⟨fb, 15, none⟩ = some t := fb_cell hl2.2.1 15; have f15 := fb_loose hl2.2.1 15)
        have r2 := r1.lay g2 o2
        have m2 := hm.carry r2.k hpf hqf
        generalize w2.setCell ⟨fb, 15, none⟩ (.slice b2 n2 c2) = w3 at r2 m2 ⊢
        clear hl2 z15 f15 g2 o2 r1 ot
        have hGU : U G.p := by unfold U; omega
        rcases Decidable.em (codeI G.p 8 = 0) with hz | hz
        · obtain ⟨-, hz1, hz2⟩ := code_zero8 hz
          have hrd := rread_any G.p.toNat 8 (by omega) (by omega)
          rw [show ((G.p.toNat : Nat) : Int) = G.p by omega] at hrd
          have hS : (stpS B a a.root (topI at_) k) = ⟨true, rdF B G.p.toNat 8, 0, 0⟩ := by
            unfold stpS
            rw [hG, if_neg (by omega), if_neg (by rintro (h | h); exact absurd (hc.symm.trans h) (by decide); exact h hz)]
          go_upto_region 17 with (go_at_call 24; refine (rcode_any G.p 8 hGU _ p q B m2).mono ?_; rintro e w9 ⟨rfl, k9⟩; rw [hz])
          have r3 := r2.kept k9
          clear r2 m2 k9
          have y15 : w9.cell? ⟨fb, 15, none⟩ = some (.slice b2 n2 c2) := fb_cell r3.l 15
          have q3 := r3.kept ((Only.refl _ w9).alloc (.cells #[.int .i64 (G.p / 256)] 3))
          have hsz := r3.size
          go_upto_region 18 with (at_builtin; refine wpList_app1 (v := .slice b2 n2 c2) rfl _ _ rfl rfl q3.o w9.heap.size (G.p / 256) rfl (new_cell _ _ _) (by omega) (by rw [Go.Deep.nblk_alloc]; omega) ?_; intro b3 n3 c3 w4 o4 g4; have hl4 := q3.app g4; have z15 : w4.cell? ⟨fb, 15, none⟩ = some (.slice b2 n2 c2) := fb_cell hl4.2.1 15; have f15 := fb_loose hl4.2.1 15)
          have r5 := q3.lay g4 o4
          have m5 := hm.carry r5.k hpf hqf
          generalize w4.setCell ⟨fb, 15, none⟩ (.slice (some ⟨b3, 0, none⟩) n3 c3) = w5 at r5 m5 ⊢
          clear hl4 z15 f15 g4 o4 q3 r3 y15 hsz
          go_upto_region 19 with (go_at_call 57; refine (hrd _ p q B m5).mono ?_; rintro e w6 ⟨rfl, k6⟩)
          have r6 := r5.kept k6
          clear r5 m5 k6
          have r2 := r6
          clear r6
          generalize rdF B G.p.toNat 8 = x at hS ⊢
          cases hi : isE x
          · go_upto_region 20 with (first | (go_at_call 58; refine (ris_of _ _).mono ?_; rintro e wy ⟨rfl, hwy⟩; rw [hwy, hi]; clear hwy wy))
            have hX : fstS B a at_ k = ⟨false, 0, 0, pageC k, 0⟩ := by
              simp [fstS, hS, hi]
            go_wp2_with (fail)
            refine (rpage_of k hk _).mono ?_
            rintro r w4 ⟨rfl, k4⟩
            have r4 := r2.kept k4
            have v10 : w4.cell? ⟨fb, 10, none⟩ = some (.int .u64 0) := fb_cell r4.l 10
            have v12 : w4.cell? ⟨fb, 12, none⟩ = some (.int .u64 0) := fb_cell r4.l 12
            have u10 := fb_loose r4.l 10
            have u12 := fb_loose r4.l 12
            go_wp2
            have r5 := (r4.put (at2 := A) (e2 := E) (f2 := ⟨pageC k, av, 0, gva⟩) (ok2 := ok) 10 (.int .u64 (pageC k)) rfl)
            go_ret3
            exact ⟨_, by (rw [hX]); first | done | rfl, by (rw [hX]); exact r5.l, (r5.o.lower (Nat.le_add_right _ _)).more (by omega), r5.k⟩
          · cases hl : leafE x
            · go_upto_region 26 with (first | (go_at_call 58; refine (ris_of _ _).mono ?_; rintro e wy ⟨rfl, hwy⟩; rw [hwy, hi]; clear hwy wy) | (go_at_call 59; refine (rleaf_of _ _).mono ?_; rintro e wy ⟨rfl, hwy⟩; rw [hwy, hl]; clear hwy wy) | (go_at_call 60; refine (rframe_of _ _).mono ?_; rintro e wy ⟨rfl, hwy⟩; rw [hwy]; clear hwy wy))
              go_wp2_with (first | (go_at_call 58; refine (ris_of _ _).mono ?_; rintro e wy ⟨rfl, hwy⟩; rw [hwy, hi]; clear hwy wy) | (go_at_call 59; refine (rleaf_of _ _).mono ?_; rintro e wy ⟨rfl, hwy⟩; rw [hwy, hl]; clear hwy wy) | (go_at_call 60; refine (rframe_of _ _).mono ?_; rintro e wy ⟨rfl, hwy⟩; rw [hwy]; clear hwy wy))
              exact ⟨.inr ⟨_, by simp only [hS], rfl, r2, by simp only [hS], by simp only [hS]; exact hi, by simp only [hS]; exact hl⟩, by decide⟩
            · rcases Decidable.em (frI x % 16 = 0) with hw | hw
              · have hn : (bits .and .i64 (frI x) 15 != 0) = false := by
                  rw [i_low (frI x) 4 (by omega) 15 rfl]
                  exact bne_eq_false_iff_eq.2 hw
                have ho := frame_or (fr_bd x).1 (fr_bd x).2 hw l0 l1
                go_upto_region 23 with (first | (go_at_call 58; refine (ris_of _ _).mono ?_; rintro e wy ⟨rfl, hwy⟩; rw [hwy, hi]; clear hwy wy) | (go_at_call 59; refine (rleaf_of _ _).mono ?_; rintro e wy ⟨rfl, hwy⟩; rw [hwy, hl]; clear hwy wy) | (go_at_call 60; refine (rframe_of _ _).mono ?_; rintro e wy ⟨rfl, hwy⟩; rw [hwy]; clear hwy wy))
                have hX : fstS B a at_ k = ⟨true, x, frI x + lowI at_, 0, 0⟩ := by
                  simp [fstS, hS, hi, hl, hw]
                go_wp2_with (first | (go_at_call 58; refine (ris_of _ _).mono ?_; rintro e wy ⟨rfl, hwy⟩; rw [hwy, hi]; clear hwy wy) | (go_at_call 59; refine (rleaf_of _ _).mono ?_; rintro e wy ⟨rfl, hwy⟩; rw [hwy, hl]; clear hwy wy) | (go_at_call 60; refine (rframe_of _ _).mono ?_; rintro e wy ⟨rfl, hwy⟩; rw [hwy]; clear hwy wy))
                go_ret3
                exact ⟨_, by (rw [hX]); first | done | rfl, by (rw [hX]); exact r2.l, (r2.o.lower (Nat.le_add_right _ _)).more (by omega), r2.k⟩
              · have hn : (bits .and .i64 (frI x) 15 != 0) = true := by
                  rw [i_low (frI x) 4 (by omega) 15 rfl]
                  exact bne_iff_ne.2 hw
                go_upto_region 20 with (first | (go_at_call 58; refine (ris_of _ _).mono ?_; rintro e wy ⟨rfl, hwy⟩; rw [hwy, hi]; clear hwy wy) | (go_at_call 59; refine (rleaf_of _ _).mono ?_; rintro e wy ⟨rfl, hwy⟩; rw [hwy, hl]; clear hwy wy) | (go_at_call 60; refine (rframe_of _ _).mono ?_; rintro e wy ⟨rfl, hwy⟩; rw [hwy]; clear hwy wy))
                have hX : fstS B a at_ k = ⟨false, 0, 0, pageC k, 0⟩ := by
                  simp [fstS, hS, hi, hl, hw]
                go_wp2_with (fail)
                refine (rpage_of k hk _).mono ?_
                rintro r w4 ⟨rfl, k4⟩
                have r4 := r2.kept k4
                have v10 : w4.cell? ⟨fb, 10, none⟩ = some (.int .u64 0) := fb_cell r4.l 10
                have v12 : w4.cell? ⟨fb, 12, none⟩ = some (.int .u64 0) := fb_cell r4.l 12
                have u10 := fb_loose r4.l 10
                have u12 := fb_loose r4.l 12
                go_wp2
                have r5 := (r4.put (at2 := A) (e2 := E) (f2 := ⟨pageC k, av, 0, gva⟩) (ok2 := ok) 10 (.int .u64 (pageC k)) rfl)
                go_ret3
                exact ⟨_, by (rw [hX]); first | done | rfl, by (rw [hX]); exact r5.l, (r5.o.lower (Nat.le_add_right _ _)).more (by omega), r5.k⟩
        · have hn : (codeI G.p 8 != 0) = true := bne_iff_ne.2 hz
          go_upto_region 15 with (go_at_call 24; refine (rcode_any G.p 8 hGU _ p q B m2).mono ?_; rintro e w9 ⟨rfl, k9⟩)
          have r2 := r2.kept k9
          have hS : (stpS B a a.root (topI at_) k) = ⟨false, 0, badC k, 0⟩ := by
            unfold stpS
            rw [hG, if_neg (by omega), if_pos (.inr hz)]
          have hX : fstS B a at_ k = ⟨false, 0, 0, badC k, 0⟩ := by
            unfold fstS
            rw [hS]
            rfl
          go_wp2_with (fail)
          refine (rbad_of k hk _).mono ?_
          rintro r w4 ⟨rfl, k4⟩
          have r4 := r2.kept k4
          have v10 : w4.cell? ⟨fb, 10, none⟩ = some (.int .u64 0) := fb_cell r4.l 10
          have v12 : w4.cell? ⟨fb, 12, none⟩ = some (.int .u64 0) := fb_cell r4.l 12
          have u10 := fb_loose r4.l 10
          have u12 := fb_loose r4.l 12
          go_wp2
          have r5 := (r4.put (at2 := A) (e2 := E) (f2 := ⟨badC k, av, 0, gva⟩) (ok2 := ok) 10 (.int .u64 (badC k)) rfl)
          go_ret3
          exact ⟨_, by (rw [hX]); first | done | rfl, by (rw [hX]); exact r5.l, (r5.o.lower (Nat.le_add_right _ _)).more (by omega), r5.k⟩
      · rw [hc]
        go_upto_region 12 with (at_builtin; refine wpList_appT rfl _ _ rfl rfl r1.o rfl ot (by omega) hsz ?_; intro b2 n2 c2 w2 o2 g2; have hl2 := r1.app g2; have z15 : w2.cell? ⟨fb, 15, none⟩ = some t := fb_cell hl2.2.1 15; have f15 := fb_loose hl2.2.1 15)
        have r2 := r1.lay g2 o2
        have m2 := hm.carry r2.k hpf hqf
        generalize w2.setCell ⟨fb, 15, none⟩ (.slice b2 n2 c2) = w3 at r2 m2 ⊢
        clear hl2 z15 f15 g2 o2 r1 ot
        have hS : (stpS B a a.root (topI at_) k) = ⟨false, 0, gfC k, (a.root * 256 + 8 * topI at_) / 4⟩ := by
          unfold stpS
          rw [hG, if_pos hc]
        have hX : fstS B a at_ k = ⟨false, 0, 0, gfC k, (a.root * 256 + 8 * topI at_) / 4⟩ := by
          unfold fstS
          rw [hS]
          rfl
        go_wp2_with (fail)
        refine (rgf_of k hk _).mono ?_
        rintro r w4 ⟨rfl, k4⟩
        have r4 := r2.kept k4
        have v10 : w4.cell? ⟨fb, 10, none⟩ = some (.int .u64 0) := fb_cell r4.l 10
        have v12 : w4.cell? ⟨fb, 12, none⟩ = some (.int .u64 0) := fb_cell r4.l 12
        have u10 := fb_loose r4.l 10
        have u12 := fb_loose r4.l 12
        go_wp2
        have r5 := ((r4.put (at2 := A) (e2 := E) (f2 := ⟨gfC k, av, 0, gva⟩) (ok2 := ok) 10 (.int .u64 (gfC k)) rfl).put (at2 := A) (e2 := E) (f2 := ⟨gfC k, av, (a.root * 256 + 8 * topI at_) / 4, gva⟩) (ok2 := ok) 12 (.int .u64 ((a.root * 256 + 8 * topI at_) / 4)) rfl)
        go_ret3
        exact ⟨_, by (rw [hX]); first | done | rfl, by (rw [hX]); exact r5.l, (r5.o.lower (Nat.le_add_right _ _)).more (by omega), r5.k⟩
      · rw [hc]
        go_upto_region 15 with (at_builtin; refine wpList_appT rfl _ _ rfl rfl r1.o rfl ot (by omega) hsz ?_; intro b2 n2 c2 w2 o2 g2; have hl2 := r1.app g2; have z15 : w2.cell? ⟨fb, 15, none⟩ = some t := fb_cell hl2.2.1 15; have f15 := fb_loose hl2.2.1 15)
        have r2 := r1.lay g2 o2
        have m2 := hm.carry r2.k hpf hqf
        generalize w2.setCell ⟨fb, 15, none⟩ (.slice b2 n2 c2) = w3 at r2 m2 ⊢
        clear hl2 z15 f15 g2 o2 r1 ot
        have hS : (stpS B a a.root (topI at_) k) = ⟨false, 0, badC k, 0⟩ := by
          unfold stpS
          rw [hG, if_neg (by omega), if_pos (.inl hc)]
        have hX : fstS B a at_ k = ⟨false, 0, 0, badC k, 0⟩ := by
          unfold fstS
          rw [hS]
          rfl
        go_wp2_with (fail)
        refine (rbad_of k hk _).mono ?_
        rintro r w4 ⟨rfl, k4⟩
        have r4 := r2.kept k4
        have v10 : w4.cell? ⟨fb, 10, none⟩ = some (.int .u64 0) := fb_cell r4.l 10
        have v12 : w4.cell? ⟨fb, 12, none⟩ = some (.int .u64 0) := fb_cell r4.l 12
        have u10 := fb_loose r4.l 10
        have u12 := fb_loose r4.l 12
        go_wp2
        have r5 := (r4.put (at2 := A) (e2 := E) (f2 := ⟨badC k, av, 0, gva⟩) (ok2 := ok) 10 (.int .u64 (badC k)) rfl)
        go_ret3
        exact ⟨_, by (rw [hX]); first | done | rfl, by (rw [hX]); exact r5.l, (r5.o.lower (Nat.le_add_right _ _)).more (by omega), r5.k⟩
    · generalize hx0 : (stpS B a a.root (topI at_) k).e = x0 at hs1 hs2 ⊢
      obtain ⟨fx0, fx1⟩ := fr_bd x0
      have m0 := hm.carry r0.k hpf hqf
      have hPL : 0 ≤ (frI x0 * 256 + 8 * lowI at_) := by omega
      have hPM : (frI x0 * 256 + 8 * lowI at_) < 65536 := by omega
      obtain ⟨gp0, gp1, gc⟩ := gst_bd hm.byte a (frI x0 * 256 + 8 * lowI at_) 1 false hPL
      obtain ⟨b0, b1, b2, b3, b4, b5, b6, b7⟩ := ask_cells r0.b
      go_wp2_with fail
      refine (rguest_any a (frI x0 * 256 + 8 * lowI at_) 1 false m0).mono ?_
      rintro e w1 ⟨tv, rfl, ot, k1⟩
      obtain ⟨tq, tn, tc, rfl⟩ := ot.form
      have r1 := r0.kept k1
      have hsz := r1.size
      have y15 : w1.cell? ⟨fb, 15, none⟩ = some t := fb_cell r1.l 15
      generalize hG : gstS B a (frI x0 * 256 + 8 * lowI at_) 1 false = G at *
      rcases gc with hc | hc | hc
      · rw [hc]
        go_upto_region 14 with (at_builtin; refine wpList_appT rfl _ _ rfl rfl r1.o rfl ot (by omega) hsz ?_; intro b2 n2 c2 w2 o2 g2; have hl2 := r1.app g2; have z15 : w2.cell? ⟨fb, 15, none⟩ = some t := fb_cell hl2.2.1 15; have f15 := fb_loose hl2.2.1 15)
        have r2 := r1.lay g2 o2
        have m2 := hm.carry r2.k hpf hqf
        generalize w2.setCell ⟨fb, 15, none⟩ (.slice b2 n2 c2) = w3 at r2 m2 ⊢
        clear hl2 z15 f15 g2 o2 r1 ot
        have hGU : U G.p := by unfold U; omega
        rcases Decidable.em (codeI G.p 8 = 0) with hz | hz
        · obtain ⟨-, hz1, hz2⟩ := code_zero8 hz
          have hrd := rread_any G.p.toNat 8 (by omega) (by omega)
          rw [show ((G.p.toNat : Nat) : Int) = G.p by omega] at hrd
          have hS : (stpS B a (frI x0) (lowI at_) k) = ⟨true, rdF B G.p.toNat 8, 0, 0⟩ := by
            unfold stpS
            rw [hG, if_neg (by omega), if_neg (by rintro (h | h); exact absurd (hc.symm.trans h) (by decide); exact h hz)]
          go_upto_region 17 with (go_at_call 24; refine (rcode_any G.p 8 hGU _ p q B m2).mono ?_; rintro e w9 ⟨rfl, k9⟩; rw [hz])
          have r3 := r2.kept k9
          clear r2 m2 k9
          have y15 : w9.cell? ⟨fb, 15, none⟩ = some (.slice b2 n2 c2) := fb_cell r3.l 15
          have q3 := r3.kept ((Only.refl _ w9).alloc (.cells #[.int .i64 (G.p / 256)] 3))
          have hsz := r3.size
          go_upto_region 18 with (at_builtin; refine wpList_app1 (v := .slice b2 n2 c2) rfl _ _ rfl rfl q3.o w9.heap.size (G.p / 256) rfl (new_cell _ _ _) (by omega) (by rw [Go.Deep.nblk_alloc]; omega) ?_; intro b3 n3 c3 w4 o4 g4; have hl4 := q3.app g4; have z15 : w4.cell? ⟨fb, 15, none⟩ = some (.slice b2 n2 c2) := fb_cell hl4.2.1 15; have f15 := fb_loose hl4.2.1 15)
          have r5 := q3.lay g4 o4
          have m5 := hm.carry r5.k hpf hqf
          generalize w4.setCell ⟨fb, 15, none⟩ (.slice (some ⟨b3, 0, none⟩) n3 c3) = w5 at r5 m5 ⊢
          clear hl4 z15 f15 g4 o4 q3 r3 y15 hsz
          go_upto_region 19 with (go_at_call 57; refine (hrd _ p q B m5).mono ?_; rintro e w6 ⟨rfl, k6⟩)
          have r6 := r5.kept k6
          clear r5 m5 k6
          have r2 := r6
          clear r6
          generalize rdF B G.p.toNat 8 = x at hS ⊢
          cases hi : isE x
          · have hl : leafE x = false := by
              unfold leafE
              rw [hi]
              rfl
            go_upto_region 20 with (first | (go_at_call 58; refine (ris_of _ _).mono ?_; rintro e wy ⟨rfl, hwy⟩; rw [hwy, hi]; clear hwy wy))
            have hX : fstS B a at_ k = ⟨false, 0, 0, pageC k, 0⟩ := by
              simp [fstS, hs0, hx0, hs1, hs2, hS, hl]
            go_wp2_with (fail)
            refine (rpage_of k hk _).mono ?_
            rintro r w4 ⟨rfl, k4⟩
            have r4 := r2.kept k4
            have v10 : w4.cell? ⟨fb, 10, none⟩ = some (.int .u64 0) := fb_cell r4.l 10
            have v12 : w4.cell? ⟨fb, 12, none⟩ = some (.int .u64 0) := fb_cell r4.l 12
            have u10 := fb_loose r4.l 10
            have u12 := fb_loose r4.l 12
            go_wp2
            have r5 := (r4.put (at2 := A) (e2 := E) (f2 := ⟨pageC k, av, 0, gva⟩) (ok2 := ok) 10 (.int .u64 (pageC k)) rfl)
            go_ret3
            exact ⟨_, by (rw [hX]); first | done | rfl, by (rw [hX]); exact r5.l, (r5.o.lower (Nat.le_add_right _ _)).more (by omega), r5.k⟩
          · cases hl : leafE x
            · go_upto_region 20 with (first | (go_at_call 58; refine (ris_of _ _).mono ?_; rintro e wy ⟨rfl, hwy⟩; rw [hwy, hi]; clear hwy wy) | (go_at_call 59; refine (rleaf_of _ _).mono ?_; rintro e wy ⟨rfl, hwy⟩; rw [hwy, hl]; clear hwy wy) | (go_at_call 60; refine (rframe_of _ _).mono ?_; rintro e wy ⟨rfl, hwy⟩; rw [hwy]; clear hwy wy))
              have hX : fstS B a at_ k = ⟨false, 0, 0, pageC k, 0⟩ := by
                simp [fstS, hs0, hx0, hs1, hs2, hS, hl]
              go_wp2_with (fail)
              refine (rpage_of k hk _).mono ?_
              rintro r w4 ⟨rfl, k4⟩
              have r4 := r2.kept k4
              have v10 : w4.cell? ⟨fb, 10, none⟩ = some (.int .u64 0) := fb_cell r4.l 10
              have v12 : w4.cell? ⟨fb, 12, none⟩ = some (.int .u64 0) := fb_cell r4.l 12
              have u10 := fb_loose r4.l 10
              have u12 := fb_loose r4.l 12
              go_wp2
              have r5 := (r4.put (at2 := A) (e2 := E) (f2 := ⟨pageC k, av, 0, gva⟩) (ok2 := ok) 10 (.int .u64 (pageC k)) rfl)
              go_ret3
              exact ⟨_, by (rw [hX]); first | done | rfl, by (rw [hX]); exact r5.l, (r5.o.lower (Nat.le_add_right _ _)).more (by omega), r5.k⟩
            · go_upto_region 25 with (first | (go_at_call 58; refine (ris_of _ _).mono ?_; rintro e wy ⟨rfl, hwy⟩; rw [hwy, hi]; clear hwy wy) | (go_at_call 59; refine (rleaf_of _ _).mono ?_; rintro e wy ⟨rfl, hwy⟩; rw [hwy, hl]; clear hwy wy) | (go_at_call 60; refine (rframe_of _ _).mono ?_; rintro e wy ⟨rfl, hwy⟩; rw [hwy]; clear hwy wy))
              have hX : fstS B a at_ k = ⟨true, x, frI x, 0, 0⟩ := by
                simp [fstS, hs0, hx0, hs1, hs2, hS, hl]
              go_wp2_with (first | (go_at_call 58; refine (ris_of _ _).mono ?_; rintro e wy ⟨rfl, hwy⟩; rw [hwy, hi]; clear hwy wy) | (go_at_call 59; refine (rleaf_of _ _).mono ?_; rintro e wy ⟨rfl, hwy⟩; rw [hwy, hl]; clear hwy wy) | (go_at_call 60; refine (rframe_of _ _).mono ?_; rintro e wy ⟨rfl, hwy⟩; rw [hwy]; clear hwy wy))
              go_ret3
              exact ⟨_, by (rw [hX]); first | done | rfl, by (rw [hX]); exact r2.l, (r2.o.lower (Nat.le_add_right _ _)).more (by omega), r2.k⟩
        · have hn : (codeI G.p 8 != 0) = true := bne_iff_ne.2 hz
          go_upto_region 15 with (go_at_call 24; refine (rcode_any G.p 8 hGU _ p q B m2).mono ?_; rintro e w9 ⟨rfl, k9⟩)
          have r2 := r2.kept k9
          have hS : (stpS B a (frI x0) (lowI at_) k) = ⟨false, 0, badC k, 0⟩ := by
            unfold stpS
            rw [hG, if_neg (by omega), if_pos (.inr hz)]
          have hX : fstS B a at_ k = ⟨false, 0, 0, badC k, 0⟩ := by
            simp [fstS, hs0, hx0, hs1, hs2, hS]
          go_wp2_with (fail)
          refine (rbad_of k hk _).mono ?_
          rintro r w4 ⟨rfl, k4⟩
          have r4 := r2.kept k4
          have v10 : w4.cell? ⟨fb, 10, none⟩ = some (.int .u64 0) := fb_cell r4.l 10
          have v12 : w4.cell? ⟨fb, 12, none⟩ = some (.int .u64 0) := fb_cell r4.l 12
          have u10 := fb_loose r4.l 10
          have u12 := fb_loose r4.l 12
          go_wp2
          have r5 := (r4.put (at2 := A) (e2 := E) (f2 := ⟨badC k, av, 0, gva⟩) (ok2 := ok) 10 (.int .u64 (badC k)) rfl)
          go_ret3
          exact ⟨_, by (rw [hX]); first | done | rfl, by (rw [hX]); exact r5.l, (r5.o.lower (Nat.le_add_right _ _)).more (by omega), r5.k⟩
      · rw [hc]
        go_upto_region 12 with (at_builtin; refine wpList_appT rfl _ _ rfl rfl r1.o rfl ot (by omega) hsz ?_; intro b2 n2 c2 w2 o2 g2; have hl2 := r1.app g2; have z15 : w2.cell? ⟨fb, 15, none⟩ = some t := fb_cell hl2.2.1 15; have f15 := fb_loose hl2.2.1 15)
        have r2 := r1.lay g2 o2
        have m2 := hm.carry r2.k hpf hqf
        generalize w2.setCell ⟨fb, 15, none⟩ (.slice b2 n2 c2) = w3 at r2 m2 ⊢
        clear hl2 z15 f15 g2 o2 r1 ot
        have hS : (stpS B a (frI x0) (lowI at_) k) = ⟨false, 0, gfC k, (frI x0 * 256 + 8 * lowI at_) / 4⟩ := by
          unfold stpS
          rw [hG, if_pos hc]
        have hX : fstS B a at_ k = ⟨false, 0, 0, gfC k, (frI x0 * 256 + 8 * lowI at_) / 4⟩ := by
          simp [fstS, hs0, hx0, hs1, hs2, hS]
        go_wp2_with (fail)
        refine (rgf_of k hk _).mono ?_
        rintro r w4 ⟨rfl, k4⟩
        have r4 := r2.kept k4
        have v10 : w4.cell? ⟨fb, 10, none⟩ = some (.int .u64 0) := fb_cell r4.l 10
        have v12 : w4.cell? ⟨fb, 12, none⟩ = some (.int .u64 0) := fb_cell r4.l 12
        have u10 := fb_loose r4.l 10
        have u12 := fb_loose r4.l 12
        go_wp2
        have r5 := ((r4.put (at2 := A) (e2 := E) (f2 := ⟨gfC k, av, 0, gva⟩) (ok2 := ok) 10 (.int .u64 (gfC k)) rfl).put (at2 := A) (e2 := E) (f2 := ⟨gfC k, av, (frI x0 * 256 + 8 * lowI at_) / 4, gva⟩) (ok2 := ok) 12 (.int .u64 ((frI x0 * 256 + 8 * lowI at_) / 4)) rfl)
        go_ret3
        exact ⟨_, by (rw [hX]); first | done | rfl, by (rw [hX]); exact r5.l, (r5.o.lower (Nat.le_add_right _ _)).more (by omega), r5.k⟩
      · rw [hc]
        go_upto_region 15 with (at_builtin; refine wpList_appT rfl _ _ rfl rfl r1.o rfl ot (by omega) hsz ?_; intro b2 n2 c2 w2 o2 g2; have hl2 := r1.app g2; have z15 : w2.cell? ⟨fb, 15, none⟩ = some t := fb_cell hl2.2.1 15; have f15 := fb_loose hl2.2.1 15)
        have r2 := r1.lay g2 o2
        have m2 := hm.carry r2.k hpf hqf
        generalize w2.setCell ⟨fb, 15, none⟩ (.slice b2 n2 c2) = w3 at r2 m2 ⊢
        clear hl2 z15 f15 g2 o2 r1 ot
        have hS : (stpS B a (frI x0) (lowI at_) k) = ⟨false, 0, badC k, 0⟩ := by
          unfold stpS
          rw [hG, if_neg (by omega), if_pos (.inl hc)]
        have hX : fstS B a at_ k = ⟨false, 0, 0, badC k, 0⟩ := by
          simp [fstS, hs0, hx0, hs1, hs2, hS]
        go_wp2_with (fail)
        refine (rbad_of k hk _).mono ?_
        rintro r w4 ⟨rfl, k4⟩
        have r4 := r2.kept k4
        have v10 : w4.cell? ⟨fb, 10, none⟩ = some (.int .u64 0) := fb_cell r4.l 10
        have v12 : w4.cell? ⟨fb, 12, none⟩ = some (.int .u64 0) := fb_cell r4.l 12
        have u10 := fb_loose r4.l 10
        have u12 := fb_loose r4.l 12
        go_wp2
        have r5 := (r4.put (at2 := A) (e2 := E) (f2 := ⟨badC k, av, 0, gva⟩) (ok2 := ok) 10 (.int .u64 (badC k)) rfl)
        go_ret3
        exact ⟨_, by (rw [hX]); first | done | rfl, by (rw [hX]); exact r5.l, (r5.o.lower (Nat.le_add_right _ _)).more (by omega), r5.k⟩
end Go.Proofs.YtpplclenokfpeaaDoor
