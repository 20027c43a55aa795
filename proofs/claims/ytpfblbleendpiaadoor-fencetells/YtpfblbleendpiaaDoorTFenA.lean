/-
  What goes of what is there: package fence's own loop, walked whole, for every argument.
-/
import Derived.Test.YtpfblbleendpiaaDoorTTl
import Derived.Test.YtpfblbleendpiaaDoorFenList
import Derived.WalkMore
namespace Go.Proofs.YtpfblbleendpiaaDoor
open Go.RowKit
/-- What is named, as the landed package holds it. -/
def nmdA (v : Bool) (page asid vmid frame : Int) : Array Value := #[.bool v, .int .i64 page, .int .i64 asid, .int .i64 vmid, .int .i64 frame]
def askI (page asid vmid frame : Int) (j : Nat) : Int := match j with | 0 => page | 1 => asid | 2 => vmid | _ => frame
def entI (e : EntM) (j : Nat) : Int := match j with | 0 => e.page | 1 => e.asid | 2 => e.vmid | _ => e.guest
def pairA (a n : Int) : Array Value := #[.int .i64 a, .int .i64 n]
def askA (page asid vmid frame : Int) (e : EntM) : Array Value := #[.int .i64 page, .int .i64 e.page, .int .i64 asid, .int .i64 e.asid, .int .i64 vmid, .int .i64 e.vmid, .int .i64 frame, .int .i64 e.guest]
section
variable (page asid vmid frame : Int) (e : EntM)
theorem ask_row0 (w : World) : (Instr.index 71 (.agg (askA page asid vmid frame e)) (.int .i64 0)).run Tryd.prog w = .ok (.agg (pairA page e.page)) w := by kernel_rfl
theorem ask_row1 (w : World) : (Instr.index 71 (.agg (askA page asid vmid frame e)) (.int .i64 1)).run Tryd.prog w = .ok (.agg (pairA asid e.asid)) w := by kernel_rfl
theorem ask_row2 (w : World) : (Instr.index 71 (.agg (askA page asid vmid frame e)) (.int .i64 2)).run Tryd.prog w = .ok (.agg (pairA vmid e.vmid)) w := by kernel_rfl
theorem ask_row3 (w : World) : (Instr.index 71 (.agg (askA page asid vmid frame e)) (.int .i64 3)).run Tryd.prog w = .ok (.agg (pairA frame e.guest)) w := by kernel_rfl
theorem ask_row (j : Nat) (hj : j < 4) (w : World) : (Instr.index 71 (.agg (askA page asid vmid frame e)) (.int .i64 (j : Int))).run Tryd.prog w = .ok (.agg (pairA (askI page asid vmid frame j) (entI e j))) w := by
  rcases j with _ | _ | _ | _ | j
  · exact ask_row0 page asid vmid frame e w
  · exact ask_row1 page asid vmid frame e w
  · exact ask_row2 page asid vmid frame e w
  · exact ask_row3 page asid vmid frame e w
  · omega
theorem nmd_all (v : Bool) : nmdB v page asid vmid frame e = true ↔ e.valid = true ∧ e.v = v ∧ ∀ j, j < 4 → namB (entI e j) (askI page asid vmid frame j) = true := by
  unfold nmdB
  simp only [Bool.and_eq_true, beq_iff_eq]
  constructor
  · rintro ⟨h1, h2, h3, h4, h5, h6⟩
    refine ⟨h1, h2, fun j hj => ?_⟩
    rcases j with _ | _ | _ | _ | j
    · exact h3
    · exact h4
    · exact h5
    · exact h6
    · omega
  · rintro ⟨h1, h2, h⟩
    exact ⟨h1, h2, h 0 (by omega), h 1 (by omega), h 2 (by omega), h 3 (by omega)⟩
end
theorem pair_zero : (Tryd.prog.info? 70).map (fun i => i.zero.map (·.cells)) = some (some (pairA 0 0)) := by kernel_rfl
theorem pair_size (a n : Int) : (Tryd.prog.info? 70).map (·.size) = some (pairA a n).size := by kernel_rfl
theorem pair_ones (a n : Int) : (pairA a n).all (·.oneCell') = true := by simp [pairA, Value.oneCell']
section
variable {w : World} {b : Nat} {T : Nat → EntM}
set_option maxRecDepth 10000 in
set_option maxHeartbeats 4000000 in
theorem fdrop_any (ht : PTl w b T) (hI : InvG T) (v : Bool) (page asid vmid frame : Int) :
    Calls Tryd.prog 22 #[.agg (nmdA v page asid vmid frame), .pointer (some ⟨b, 0, none⟩)] w fun r w' => r = .returned (.int .i64 (cntT (nmdB v page asid vmid frame) T : Nat)) ∧ PTl w' b (wipeT (nmdB v page asid vmid frame) T) ∧ Only (fun i => i = b) w w' := by
  have kb := (Only.refl (fun _ => False) w).alloc (.cells (nmdA v page asid vmid frame) 54)
  have bl : Blk (w.alloc (.cells (nmdA v page asid vmid frame) 54)) w.heap.size 54 (nmdA v page asid vmid frame) := alloc_last w _ _
  have hend := gone_end (P := nmdB v page asid vmid frame) nmd_val T
  have hcnt := kN_gone (P := nmdB v page asid vmid frame) nmd_val T
  have hall := fun e => nmd_all page asid vmid frame e v
  have hrow := ask_row page asid vmid frame
  have hno := fun k h => gone_no (P := nmdB v page asid vmid frame) (T := T) (k := k) h
  have hyes := fun k h => gone_yes (P := nmdB v page asid vmid frame) hI (k := k) h
  have hval := fun k h => all_valid (T := T) (k := k) h
  have hN := fun k h => kN_no (Q := nmdB v page asid vmid frame) (A := allT T) (i := k) h
  have hY := fun k h => kN_yes (Q := nmdB v page asid vmid frame) (A := allT T) (i := k) h
  have hlen : (allT T).length ≤ 16 := all_len T 16 0
  have hle := kN_le (nmdB v page asid vmid frame) (allT T)
  have h0 := gone_0 (nmdB v page asid vmid frame) T
  have hlb := ht.lt
  rw [← hend, ← hcnt]
  go_enter Tryd.func22, Tryd.ntmps22
  go_wp2_with fail
  go_step3
  go_wp2_with fail
  go_step3
  generalize w.alloc (.cells (nmdA v page asid vmid frame) 54) = w1 at kb bl ⊢
  generalize hnb : w.heap.size = nb at bl ⊢
  go_wp2_with (go_at_call 15; refine (tall_any ⟨rfl⟩ (ht.kept kb)).mono ?_; rintro r w2 ⟨al, rfl, ow, k2⟩; obtain ⟨q, cap, rfl⟩ := ow.form)
  have bs : w1.heap.size > b := by have := kb.size; omega
  have ob := (ht.kept kb).kept k2
  have bb := bl.kept k2
  have o2 := (kb.then k2).mono (T := fun i => i = b) fun _ x => x.elim
  clear kb bl k2
  generalize w1.heap.size = base at *
  have hbn : b < nb := by omega
  clear ht hI hlb hend hcnt
  go_loopw [13, 5] (fun i n wr => ∃ k : Nat, k ≤ (allT T).length ∧ i = .int .i64 (k : Int) ∧ n = .int .i64 (kN (nmdB v page asid vmid frame) (allT T) k : Nat) ∧ PTl wr b (goneT (nmdB v page asid vmid frame) T k) ∧ OwnE base wr (.slice q (allT T).length cap) (allT T) ∧ Blk wr nb 54 (nmdA v page asid vmid frame) ∧ Only (fun i => i = b) w wr) (fun i _ _ => (allT T).length - (intOf i).toNat)
  case atStart => exact ⟨0, by omega, rfl, rfl, by rw [h0]; exact ob, ow, bb, o2⟩
  case round =>
    clear h0 ob ow bb o2
    obtain ⟨k, hk, rfl, rfl, ht, ow, bl, ox⟩ := hrel
    by_cases hlt : k < (allT T).length
    · have hlt' : (k : Int) < ((allT T).length : Int) := by omega
      have hk0 : (0 : Int) ≤ (k : Int) := by omega
      have v1 := hval k hlt
      have f1 := hno k hlt
      have f2 := hyes k hlt
      have n1 := hN k hlt
      have n2 := hY k hlt
      obtain ⟨g, cp, hq, hg, hr⟩ := ow.range k hlt
      obtain ⟨rfl, rfl⟩ : q = some ⟨g, 0, none⟩ ∧ cap = cp := by simpa using hq
      have hle1 := hle k
      generalize (allT T)[k] = e at *
      have hx := hrow e
      have hp := hall e
      clear hval hno hyes hN hY hle hrow hall hq
      generalize hn1 : kN (nmdB v page asid vmid frame) (allT T) k = n at *
      go_upto_region 5 with (first | (refine wpList_load_mid rfl 47 _ rfl g (k * 9) rfl (entA e) _ hr Tryd.underlying47 rfl (ent_size' _) ?_) | (refine wpList_alloc_go rfl 47 rfl (entA entNone).toArray ent_zero' ?_; intro eb wa na ka ma ea) | (refine wpList_store_go rfl 47 _ _ rfl eb (entA e).toArray rfl rfl ea (ent_size' _) ((ent_len _).trans (ent_len _).symm) (ent_ones' _) ?_; intro wb ob fb))
      have hkb : Kept wr wb := ka.new ob fun i hi => by omega
      have ht2 := ht.kept hkb
      have ow2 := ow.kept hkb
      have bl2 := bl.kept hkb
      have ox2 := ox.trans (hkb.mono (T := fun i => i = b) fun _ x => x.elim)
      have hs := ox2.size
      clear ht ow bl ox ka ea ob hr hkb na ma
      have c1 : _ = some (Value.bool e.v) := fb.cell 1
      have m0 : _ = some (Value.bool v) := bl2.cell 0
      by_cases hv : e.v = v
      · rw [hv] at c1
        have m1 : _ = some (Value.int .i64 page) := bl2.cell 1
        have m2 : _ = some (Value.int .i64 asid) := bl2.cell 2
        have m3 : _ = some (Value.int .i64 vmid) := bl2.cell 3
        have m4 : _ = some (Value.int .i64 frame) := bl2.cell 4
        have d2 : _ = some (Value.int .i64 e.page) := fb.cell 2
        have d3 : _ = some (Value.int .i64 e.asid) := fb.cell 3
        have d4 : _ = some (Value.int .i64 e.vmid) := fb.cell 4
        have d8 : _ = some (Value.int .i64 e.guest) := fb.cell 8
        go_wp2_with (first | (refine wpList_built rfl 71 _ rfl (askA page asid vmid frame e) (by kernel_rfl) ?_) | (refine wpList_built rfl 70 #[(0, .tmp 23), (1, .tmp 25)] rfl (pairA page e.page) (by kernel_rfl) ?_) | (refine wpList_built rfl 70 #[(0, .tmp 28), (1, .tmp 30)] rfl (pairA asid e.asid) (by kernel_rfl) ?_) | (refine wpList_built rfl 70 #[(0, .tmp 33), (1, .tmp 35)] rfl (pairA vmid e.vmid) (by kernel_rfl) ?_) | (refine wpList_built rfl 70 #[(0, .tmp 38), (1, .tmp 40)] rfl (pairA frame e.guest) (by kernel_rfl) ?_))
        clear c1 m0 m1 m2 m3 m4 d2 d3 d4 d8
        go_loopw [43] (fun i wi => ∃ j : Nat, j ≤ 4 ∧ i = .int .i64 (j : Int) ∧ (∀ m, m < j → namB (entI e m) (askI page asid vmid frame m) = true) ∧ Kept wb wi) (fun i _ => 4 - (intOf i).toNat)
        case atStart => exact ⟨0, by omega, rfl, fun m hm => by omega, Only.refl _ _⟩
        case round =>
          obtain ⟨j, hj, rfl, hin, kj⟩ := hrel
          by_cases hj4 : j < 4
          · have hxj := hx j hj4
            have hj0 : (j : Int) < 4 := by omega
            have hin2 : namB (entI e j) (askI page asid vmid frame j) = true → ∀ m, m < j + 1 → namB (entI e m) (askI page asid vmid frame m) = true := fun h m hm => by
              by_cases hmj : m = j
              · rw [hmj]; exact h
              · exact hin m (by omega)
            have hbad : namB (entI e j) (askI page asid vmid frame j) = false → nmdB v page asid vmid frame e = false := fun h => Bool.eq_false_iff.2 fun h2 => by
              have := (hp.1 h2).2.2 j hj4
              rw [h] at this
              cases this
            clear hx hp hin
            generalize askI page asid vmid frame j = A at *
            generalize entI e j = N at *
            go_upto_region 9 with (first | (refine wpList_alloc_go rfl 70 rfl (pairA 0 0) pair_zero ?_; intro pb wc nc kc mc pc) | (refine wpList_store_go rfl 70 _ _ rfl pb (pairA A N) rfl rfl pc (pair_size A N) rfl (pair_ones A N) ?_; intro wd od fd))
            have kd : Kept wb wd := (kj.then kc).new od fun i hi => by have := kj.size; omega
            have p0 : _ = some (Value.int .i64 A) := fd.cell 0
            have p1 : _ = some (Value.int .i64 N) := fd.cell 1
            clear fd od kc pc kj
            by_cases hA : A = -1
            · have q1 : (A == -1) = true := beq_iff_eq.2 hA
              have hn : namB N A = true := by unfold namB; rw [q1]; rfl
              subst hA
              go_wp2_with fail
              exact ⟨⟨j + 1, by omega, by go_num, hin2 hn, kd⟩, by simp [intOf]; omega⟩
            · have q1 : (A == -1) = false := beq_eq_false_iff_ne.2 hA
              by_cases hN2 : A = N
              · have hn : namB N A = true := by unfold namB; rw [hN2, beq_self_eq_true, Bool.or_true]
                subst hN2
                go_wp2_with fail
                exact ⟨⟨j + 1, by omega, by go_num, hin2 hn, kd⟩, by simp [intOf]; omega⟩
              · have q2 : (A == N) = false := beq_eq_false_iff_ne.2 hN2
                have hn : namB N A = false := by
                  unfold namB
                  rw [q1, Bool.false_or]
                  exact beq_eq_false_iff_ne.2 fun x => hN2 x.symm
                have r1 : (A != -1) = true := bne_iff_ne.2 hA
                have r2 : (A != N) = true := bne_iff_ne.2 hN2
                have hP := hbad hn
                have e1 := f1 hP
                have e2 := n1 hP
                clear hbad hin2 f1 f2 n1 n2
                go_wp2_with fail
                exact ⟨⟨k + 1, by omega, by go_num, by rw [e2], by rw [e1]; exact ht2.kept kd, ow2.kept kd, bl2.kept kd, ox2.trans (kd.mono (T := fun i => i = b) fun _ x => x.elim)⟩, by simp [intOf]; omega⟩
          · obtain rfl : j = 4 := by omega
            have hP : nmdB v page asid vmid frame e = true := hp.2 ⟨v1, hv, hin⟩
            have e1 := (f2 hP).1
            have e2 := n2 hP
            have hn16 : (n : Int) < 100 := by omega
            have hn0 : (0 : Int) ≤ (n : Int) := by omega
            have ht3 := ht2.kept kj
            have ow3 := ow2.kept kj
            have bl3 := bl2.kept kj
            have fb3 := fb.kept kj
            have ox3 := ox2.trans (kj.mono (T := fun i => i = b) fun _ x => x.elim)
            have hs3 := ox3.size
            clear hx hp f1 f2 n1 n2 hin ht2 ow2 bl2 ox2 fb kj
            go_wp2_with (first | (refine wpList_load_blk (by rfl) 47 _ rfl eb rfl fb3 _ Tryd.underlying47 rfl (ent_size' _) ?_) | (go_at_call 34; refine (tdrop_any ⟨rfl⟩ ht3 e).mono ?_; rintro r w5 ⟨rfl, ht4, o4⟩))
            exact ⟨⟨k + 1, by omega, by go_num, by rw [e2]; push_cast; rfl, by rw [← e1]; exact ht4, ow3.past o4 (fun i hi => by omega), o4.block bl3 (by omega), ox3.trans o4⟩, by simp [intOf]; omega⟩
      · have hP : nmdB v page asid vmid frame e = false := Bool.eq_false_iff.2 fun h => hv ((hp.1 h).2.1)
        have e1 := f1 hP
        have e2 := n1 hP
        clear hx hp f1 f2 n1 n2
        generalize hev : e.v = u at *
        cases u <;> cases v
        · exact absurd rfl hv
        · go_wp2_with fail
          exact ⟨⟨k + 1, by omega, by go_num, by rw [e2], by rw [e1]; exact ht2, ow2, bl2, ox2⟩, by simp [intOf]; omega⟩
        · go_wp2_with fail
          exact ⟨⟨k + 1, by omega, by go_num, by rw [e2], by rw [e1]; exact ht2, ow2, bl2, ox2⟩, by simp [intOf]; omega⟩
        · exact absurd rfl hv
    · obtain rfl : k = (allT T).length := by omega
      go_wp2_with fail
      rw [Exit.noGoto_ret]
      go_ret
      exact ⟨rfl, ht, ox⟩
end
end Go.Proofs.YtpfblbleendpiaaDoor
