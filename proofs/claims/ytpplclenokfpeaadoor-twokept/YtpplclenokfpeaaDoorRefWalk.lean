/-
  A walk through a table, as the document's own call answers (Walk of the reference): walked whole, for every argument.
-/
import Derived.Test.YtpplclenokfpeaaDoorWkMem
import Derived.Test.YtpplclenokfpeaaDoorMemBase
import Derived.Deep.AppendLies
import Derived.Laws.AppendOwnNone
import Derived.Test.YtpplclenokfpeaaDoorStBase
import Derived.Laws.ResultCell
import Derived.Deep.WholeRow
import Derived.Deep.RegionHeld3
namespace Go.Proofs.YtpplclenokfpeaaDoor
open Go.RowKit
set_option maxHeartbeats 1000000 in
theorem rentry_any (f i : Int) {w : World} {p q : Nat} {B : Nat → Int} (hm : RefAt w p q B) :
    Calls Tryd.prog 62 #[.pointer (some ⟨p, 0, none⟩), .int .i64 f, .int .i64 i] w fun e w' => e = .returned (.tuple #[.int .u64 (entE B f i), .bool (entO f i)]) ∧ Kept w w' := by
  have hc := hm.cell
  unfold entE
  by_cases h : 0 ≤ f ∧ f < 128 ∧ 0 ≤ i ∧ i < 16
  · have ho : entO f i = true := decide_eq_true h
    rw [ho, cond_true]
    obtain ⟨h0, h1, h2, h3⟩ := h
    have l1 : ¬ (128 : Int) ≤ f := by omega
    have l2 : ¬ (15 : Int) < i := by omega
    have l3 : ¬ f < 0 := by omega
    have l4 : ¬ i < 0 := by omega
    have hr := rread_any (f * 256 + 8 * i).toNat 8 (by omega) (by omega) w p q B hm
    rw [show (((f * 256 + 8 * i).toNat : Nat) : Int) = f * 256 + 8 * i by omega] at hr
    have b0 : 0 ≤ f * 256 + 8 * i := by omega
    have b1 : f * 256 + 8 * i < 32768 := by omega
    clear ho hm
    go_enter Tryd.func62, Tryd.ntmps62
    go_wp2_with fail
    refine hr.mono ?_
    rintro e w' ⟨rfl, k⟩
    go_wp2
    go_ret2
    exact ⟨rfl, k⟩
  · have ho : entO f i = false := decide_eq_false h
    rw [ho, cond_false]
    clear ho hm
    go_enter Tryd.func62, Tryd.ntmps62
    go_wp2_with fail
    all_goals
      go_ret2
      exact ⟨rfl, Only.refl _ _⟩
end Go.Proofs.YtpplclenokfpeaaDoor
namespace Go.Proofs.YtpplclenokfpeaaDoor
open Go.RowKit
theorem info_parts64 {P : Program} {e : TypeId} {z : Value} {s b : Nat} (h : (P.info? e).map (fun i => (i.zero, i.size, i.bytes)) = some (some z, s, b)) : ∃ i, P.info? e = some i ∧ i.zero = some z ∧ i.size = s ∧ i.bytes = b := by
  cases hi : P.info? e with
  | none => rw [hi] at h; cases h
  | some i =>
    rw [hi] at h
    simp only [Option.map_some, Option.some.injEq, Prod.mk.injEq] at h
    exact ⟨i, rfl, h.1, h.2.1, h.2.2⟩
theorem info_i64 : (Tryd.prog.info? 3).map (fun i => (i.zero, i.size, i.bytes)) = some (some (.int .i64 0), 1, 8) := by kernel_rfl
/-- A slice of numbers that the call itself made, of n at most. -/
def OwnT (base n : Nat) (w : World) (v : Value) : Prop := ∃ k xs, w.ownsRow base 3 1 v k xs ∧ k ≤ n ∧ (∀ u ∈ xs, u.oneCell' = true) ∧ (k = 0 → v = .slice none 0 0)
theorem ownT_nil (base n : Nat) (w : World) : OwnT base n w (.slice none 0 0) := ⟨0, [], World.ownsRow_nil w base _ _, by omega, by simp, fun _ => rfl⟩
theorem OwnT.form {base n : Nat} {w : World} {v : Value} (h : OwnT base n w v) : ∃ q k cap, v = .slice q k cap := by
  obtain ⟨k, xs, ⟨_, h1⟩, _⟩ := h
  rcases h1 with ⟨e, _⟩ | ⟨g, cap, cur, e, _⟩
  · exact ⟨_, _, _, e⟩
  · exact ⟨_, _, _, e⟩
theorem OwnT.more {base n m : Nat} {w : World} {v : Value} (h : OwnT base n w v) (hm : n ≤ m) : OwnT base m w v := by
  obtain ⟨k, xs, h1, h2, h3⟩ := h
  exact ⟨k, xs, h1, Nat.le_trans h2 hm, h3⟩
theorem OwnT.lower {base c n : Nat} {w : World} {v : Value} (h : OwnT base n w v) (hc : c ≤ base) : OwnT c n w v := by
  obtain ⟨k, xs, ⟨h0, h1⟩, h2, h3⟩ := h
  refine ⟨k, xs, ⟨h0, ?_⟩, h2, h3⟩
  rcases h1 with h1 | ⟨g, cap, cur, e1, e2, e3⟩
  · exact .inl h1
  · exact .inr ⟨g, cap, cur, e1, Nat.le_trans hc e2, e3⟩
theorem OwnT.kept {base n : Nat} {w w' : World} {v : Value} (h : OwnT base n w v) (g : Kept w w') : OwnT base n w' v := by
  obtain ⟨k, xs, ⟨h0, h1⟩, h2, h3⟩ := h
  refine ⟨k, xs, ⟨h0, ?_⟩, h2, h3⟩
  rcases h1 with h1 | ⟨b, cap, cur, e1, e2, e3, e4⟩
  · exact .inl h1
  · exact .inr ⟨b, cap, cur, e1, e2, g.block e3 id, e4⟩
theorem OwnT.past {base n : Nat} {w w' : World} {v : Value} {S : Nat → Prop} (h : OwnT base n w v) (g : Only S w w') (hs : ∀ i, S i → i < base) : OwnT base n w' v := by
  obtain ⟨k, xs, ⟨h0, h1⟩, h2, h3⟩ := h
  refine ⟨k, xs, ⟨h0, ?_⟩, h2, h3⟩
  rcases h1 with h1 | ⟨b, cap, cur, e1, e2, e3, e4⟩
  · exact .inl h1
  · exact .inr ⟨b, cap, cur, e1, e2, g.block e3 fun x => by have := hs b x; omega, e4⟩
theorem only_grown {w w' : World} {row : Option Nat} (h : w.grownBy w' row) : Only (fun i => some i = row) w w' :=
  ⟨h.os, h.output, h.size, fun i hi hn => h.block i hi hn⟩
theorem app_bd : (100 : Nat) ≤ maxLen := by unfold maxLen; omega
/-- One number more, at the operation. -/
theorem wp_app1 {w : World} {o : Oper} {a : Act} {K : Act → World → Prop} {Q : Exit → Act → World → Prop} (s x : Operand)
    (ho : o.op = .call { callee := .builtin .append, args := #[s, x], argTypes := #[41, 41] }) {base n : Nat} {v : Value} (hs : a.eval s = v) (hown : OwnT base n w v) (b : Nat) (r : Int)
    (hx : a.eval x = .slice (some ⟨b, 0, none⟩) 1 1) (hc : w.cell? ⟨b, 0, none⟩ = some (.int .i64 r)) (hn : n < 100) (hb : base ≤ w.heap.size)
    (h : ∀ g k cap w', OwnT base (n + 1) w' (.slice (some ⟨g, 0, none⟩) k cap) → Only (fun i => base ≤ i ∧ v.ownBlock = some i) w w' → K (a.put o.dst (.slice (some ⟨g, 0, none⟩) k cap)) w') : o.wp Tryd.prog a w K Q := by
  obtain ⟨k, xs, h1, h2, h3, h4⟩ := hown
  obtain ⟨i0, hi, hz0, hz1, hz2⟩ := info_parts64 info_i64
  have hbd := app_bd
  refine wp_append_lies w s x 41 ho base 3 i0 (.int .i64 0) 1 8 Tryd.underlying41 hi hz0 hz1 hz2 rfl (by decide) v k xs hs h1 ⟨b, 0, none⟩ 1 1 [.int .i64 r] hx rfl (fun j u hu => ?_) (fun u hu => ?_) (by decide) (by omega) (by omega) hb _ rfl ?_
  · cases j with
    | zero =>
      have : Value.int .i64 r = u := by simpa using hu
      rw [← this]
      have hadd : (⟨b, 0, none⟩ : Addr).add 0 = ⟨b, 0, none⟩ := by unfold Addr.add; split <;> simp_all
      rw [hadd]; exact hc
    | succ j => simp at hu
  · have : u = .int .i64 r := by simpa using hu
    rw [this]; rfl
  · intro g cap w' hown' hgrow hat hlt
    refine h _ _ _ w' ⟨k + 1, xs ++ [.int .i64 r], hown', by omega, fun u hu => ?_, fun h0 => by omega⟩ ((only_grown hgrow).mono fun i hi => ⟨?_, hi.symm⟩)
    · rcases List.mem_append.1 hu with hu | hu
      · exact h3 u hu
      · have : u = .int .i64 r := by simpa using hu
        rw [this]; rfl
    · exact (h1.lt i hi.symm).1
/-- One number more, at the list of a region's operations. -/
theorem wpList_app1 {w : World} {ops : Array Oper} {rest : List Oper} {o : Oper} {a : Act} {Q : Exit → Act → World → Prop} (hgd : o.guard = none) (s x : Operand)
    (ho : o.op = .call { callee := .builtin .append, args := #[s, x], argTypes := #[41, 41] }) {base n : Nat} {v : Value} (hs : a.eval s = v) (hown : OwnT base n w v) (b : Nat) (r : Int)
    (hx : a.eval x = .slice (some ⟨b, 0, none⟩) 1 1) (hc : w.cell? ⟨b, 0, none⟩ = some (.int .i64 r)) (hn : n < 100) (hb : base ≤ w.heap.size)
    (h : ∀ g k cap w', OwnT base (n + 1) w' (.slice (some ⟨g, 0, none⟩) k cap) → Only (fun i => base ≤ i ∧ v.ownBlock = some i) w w' → wpList Tryd.prog ops Q rest (a.put o.dst (.slice (some ⟨g, 0, none⟩) k cap)) w') : wpList Tryd.prog ops Q (o :: rest) a w :=
  wpList_plain hgd fun _ hK => wp_app1 s x ho hs hown b r hx hc hn hb fun g k cap w' h1 h2 => hK _ _ (h g k cap w' h1 h2)
/-- One number more, at a step of a region that draws its order. -/
theorem step_app1 {w : World} {ops : Array Oper} {o : Oper} {a : Act} {K : Act → World → Prop} {Q : Exit → Act → World → Prop} {E : Prop} (hgd : o.guard = none) (s x : Operand)
    (ho : o.op = .call { callee := .builtin .append, args := #[s, x], argTypes := #[41, 41] }) {base n : Nat} {v : Value} (hs : a.eval s = v) (hown : OwnT base n w v) (b : Nat) (r : Int)
    (hx : a.eval x = .slice (some ⟨b, 0, none⟩) 1 1) (hc : w.cell? ⟨b, 0, none⟩ = some (.int .i64 r)) (hn : n < 100) (hb : base ≤ w.heap.size)
    (h : ∀ g k cap w', OwnT base (n + 1) w' (.slice (some ⟨g, 0, none⟩) k cap) → Only (fun i => base ≤ i ∧ v.ownBlock = some i) w w' → K (a.put o.dst (.slice (some ⟨g, 0, none⟩) k cap)) w') :
    if Region.wanted o (yielded ops a.tmps) = true then Oper.wp Tryd.prog o a w K Q else E := by
  have hw : Region.wanted o (yielded ops a.tmps) = true := by simp [Region.wanted, hgd]
  rw [if_pos hw]
  exact wp_app1 s x ho hs hown b r hx hc hn hb h
/-- What another slice of the call's own holds, appended. -/
theorem wpList_appT {w : World} {ops : Array Oper} {rest : List Oper} {o : Oper} {a : Act} {Q : Exit → Act → World → Prop} (hgd : o.guard = none) (s x : Operand)
    (ho : o.op = .call { callee := .builtin .append, args := #[s, x], argTypes := #[41, 41] }) {base n : Nat} {v : Value} (hs : a.eval s = v) (hown : OwnT base n w v) {base2 m : Nat} {t : Value}
    (hx : a.eval x = t) (ht : OwnT base2 m w t) (hnm : n + m < 100) (hb : base ≤ w.heap.size)
    (h : ∀ q k cap w', OwnT base (n + m) w' (.slice q k cap) → Only (fun i => base ≤ i ∧ v.ownBlock = some i) w w' → wpList Tryd.prog ops Q rest (a.put o.dst (.slice q k cap)) w') : wpList Tryd.prog ops Q (o :: rest) a w := by
  obtain ⟨i0, hi, hz0, hz1, hz2⟩ := info_parts64 info_i64
  have hbd := app_bd
  obtain ⟨vq, vk, vc, hv⟩ := hown.form
  obtain ⟨k2, ys, ⟨e0, e1⟩, e2, e3, e4⟩ := ht
  rcases e1 with ⟨et, _⟩ | ⟨g, cap, cur, et, hg, hh, hc1, hc2, hc3, hc4⟩
  · obtain ⟨k, xs, h1, h2, h3, h4⟩ := hown
    refine wpList_append_own_none hgd s x 41 ho base 3 i0 1 Tryd.underlying41 hi v k xs hs h1 (by rw [hx, et]) ?_
    subst hv
    exact h _ _ _ w ⟨k, xs, h1, by omega, h3, h4⟩ (Only.refl _ w)
  · have hk2 : 0 < k2 := by
      rcases Nat.eq_zero_or_pos k2 with z | z
      · have := e4 z
        rw [et] at this
        simp at this
      · exact z
    obtain ⟨k, xs, h1, h2, h3, h4⟩ := hown
    refine wpList_append_lies w hgd s x 41 ho base 3 i0 (.int .i64 0) 1 8 Tryd.underlying41 hi hz0 hz1 hz2 rfl (by decide) v k xs hs h1 ⟨g, 0, none⟩ k2 cap ys (by rw [hx, et]) e0 (fun j u hu => ?_) e3 hk2 (by omega) (by omega) hb _ rfl ?_
    · have hadd : (⟨g, 0, none⟩ : Addr).add j = ⟨g, j, none⟩ := by unfold Addr.add; split <;> simp_all
      rw [hadd, cell_of_row w g j cur _ (0, 0) hh]
      rw [← hc4, List.getElem?_take] at hu
      split at hu
      · rw [Array.getElem?_toList] at hu; exact hu
      · cases hu
    · intro g' cap' w' hown' hgrow hat hlt
      refine h _ _ _ w' ⟨k + k2, xs ++ ys, hown', by omega, fun u hu => ?_, fun h0 => by omega⟩ ((only_grown hgrow).mono fun i hi => ⟨(h1.lt i hi.symm).1, hi.symm⟩)
      rcases List.mem_append.1 hu with hu | hu
      · exact h3 u hu
      · exact e3 u hu
end Go.Proofs.YtpplclenokfpeaaDoor
namespace Go.Proofs.YtpplclenokfpeaaDoor
open Go.RowKit
theorem wkd_size (a b c d : Value) : (Tryd.prog.info? 88).map (·.size) = some (#[a, b, c, d] : Array Value).size := by kernel_rfl
theorem wkd_ones {a b c : Int} {v : Value} (h : v.oneCell' = true) : (#[.int .u64 a, .int .i64 b, .int .i64 c, v] : Array Value).all (·.oneCell') = true := by simp [Value.oneCell'] at *; exact h
/-- Two rooms that the call itself made: its answer's, and the one it works in. -/
structure WkR (w0 w : World) (c : Array Value) : Prop where
  k : Kept w0 w
  r : w.heap[w0.heap.size]? = some (.cells #[.int .u64 0, .int .i64 0, .int .i64 0, .slice none 0 0] 88 (0, 0))
  l : w.heap[w0.heap.size + 1]? = some (.cells c 88 (0, 0))
theorem WkR.new (w : World) (c : Array Value) : WkR w ((w.alloc (.cells #[.int .u64 0, .int .i64 0, .int .i64 0, .slice none 0 0] 88)).alloc (.cells c 88)) c := by
  refine ⟨((Only.refl _ w).alloc _).alloc _, ?_, ?_⟩
  · have h : (w.alloc (.cells #[.int .u64 0, .int .i64 0, .int .i64 0, .slice none 0 0] 88)).heap[w.heap.size]? = some (.cells #[.int .u64 0, .int .i64 0, .int .i64 0, .slice none 0 0] 88 (0, 0)) := alloc_last w _ _
    exact ((Only.refl (fun _ => False) (w.alloc (.cells #[.int .u64 0, .int .i64 0, .int .i64 0, .slice none 0 0] 88))).alloc (.cells c 88)).block h id
  · have h := alloc_last (w.alloc (.cells #[.int .u64 0, .int .i64 0, .int .i64 0, .slice none 0 0] 88)) c 88
    rwa [Go.Deep.nblk_alloc] at h
theorem WkR.kept {w0 w w' : World} {c : Array Value} (h : WkR w0 w c) (g : Kept w w') : WkR w0 w' c := ⟨h.k.then g, g.block h.r id, g.block h.l id⟩
theorem WkR.only {w0 w w' : World} {c : Array Value} {S : Nat → Prop} (h : WkR w0 w c) (g : Only S w w') (hs : ∀ i, S i → w0.heap.size + 2 ≤ i) : WkR w0 w' c :=
  ⟨h.k.new g fun i hi => by have := hs i hi; omega, g.block h.r fun x => by have := hs _ x; omega, g.block h.l fun x => by have := hs _ x; omega⟩
theorem WkR.cell {w0 w : World} {c : Array Value} (h : WkR w0 w c) (i : Nat) : w.cell? ⟨w0.heap.size + 1, i, none⟩ = c[i]? := by
  simp [World.cell?, h.l]
theorem WkR.set {w0 w : World} {c : Array Value} (h : WkR w0 w c) (i : Nat) (v : Value) : WkR w0 (w.setCell ⟨w0.heap.size + 1, i, none⟩ v) (c.setIfInBounds i v) := by
  refine ⟨h.k.new (Only.setCell (Only.refl (fun j => j = w0.heap.size + 1) w) rfl v) fun i hi => by omega, ?_, ?_⟩
  · rw [Go.Deep.blk_setCell_other _ _ _ _ (by simp only; omega)]; exact h.r
  · show (w.heap.modify (w0.heap.size + 1) _)[w0.heap.size + 1]? = _
    rw [Array.getElem?_modify, if_pos rfl, h.l]
    rfl
theorem new_cell (w : World) (v : Value) (T : TypeId) : (w.alloc (.cells #[v] T)).cell? ⟨w.heap.size, 0, none⟩ = some v := by
  unfold World.cell?
  rw [alloc_last]
  rfl
theorem only_row (w : World) (g : Nat) (cs : Array Value) : Only (fun i => i = g) w (w.setRow g cs) := (Only.refl (fun i => i = g) w).setRow rfl cs
theorem only_cell (w : World) (g i : Nat) (v : Value) : Only (fun j => j = g) w (w.setCell ⟨g, i, none⟩ v) := Only.setCell (Only.refl (fun j => j = g) w) rfl v
theorem WkR.size {w0 w : World} {c : Array Value} (h : WkR w0 w c) : w0.heap.size + 2 ≤ w.heap.size := (Array.getElem?_eq_some_iff.1 h.l).1
theorem WkR.loose {w0 w : World} {c : Array Value} (h : WkR w0 w c) (i : Nat) : w.frozen? ⟨w0.heap.size + 1, i, none⟩ = false := by
  simp [World.frozen?, h.l]
set_option maxRecDepth 10000 in
set_option maxHeartbeats 1000000 in
theorem rwalk_a (root at_ : Int) {w : World} {p q : Nat} {B : Nat → Int} (_hm : RefAt w p q B) (h : 65536 ≤ at_) :
    Calls Tryd.prog 39 #[.pointer (some ⟨p, 0, none⟩), .int .i64 root, .int .u64 at_] w fun e w' => ∃ v, e = .returned (.agg #[.int .u64 0, .int .i64 0, .int .i64 1, v]) ∧ OwnT w.heap.size 2 w' v ∧ Kept w w' := by
  go_enter Tryd.func39, Tryd.ntmps39
  go_wp2
  refine bodyPost_ret ?_ rfl ⟨_, rfl, ownT_nil _ _ _, ((Only.refl _ w).alloc _).alloc _⟩
  have hb := ((Only.refl (fun _ => False) (w.alloc (.cells #[.int .u64 0, .int .i64 0, .int .i64 1, .slice none 0 0] 88))).alloc (.cells #[.int .u64 0, .int .i64 0, .int .i64 1, .slice none 0 0] 88)).block (alloc_last w _ _) id
  exact results_cell_row rfl _ _ w.heap.size 88 _ (0, 0) _ rfl hb Tryd.underlying88 rfl (wkd_size _ _ _ _)
set_option maxRecDepth 10000 in
set_option maxHeartbeats 1000000 in
theorem rwalk_b (root at_ : Int) {w : World} {p q : Nat} {B : Nat → Int} (hm : RefAt w p q B) (h : ¬ 65536 ≤ at_) (ho : entO root (topI at_) = false) :
    Calls Tryd.prog 39 #[.pointer (some ⟨p, 0, none⟩), .int .i64 root, .int .u64 at_] w fun e w' => ∃ v, e = .returned (.agg #[.int .u64 0, .int .i64 0, .int .i64 2, v]) ∧ OwnT w.heap.size 2 w' v ∧ Kept w w' := by
  have e1 : bits .and .u64 (at_ / 4096) 15 = topI at_ := u_low (at_ / 4096) 4 (by omega) 15 rfl
  have e2 : bits .and .u64 (at_ / 256) 15 = lowI at_ := u_low (at_ / 256) 4 (by omega) 15 rfl
  obtain ⟨t0, t1⟩ := top_bd at_
  obtain ⟨l0, l1⟩ := low_bd at_
  go_enter Tryd.func39, Tryd.ntmps39
  go_wp2_with fail
  refine (rentry_any root (topI at_) (hm.kept (WkR.new w #[.int .u64 0, .int .i64 0, .int .i64 0, .slice none 0 0]).k)).mono ?_
  rintro e w1 ⟨rfl, k1⟩
  rw [ho]
  have r1 := (WkR.new w #[.int .u64 0, .int .i64 0, .int .i64 0, .slice none 0 0]).kept k1
  have s1 := r1.size
  have m1 := hm.kept r1.k
  have c3 : w1.cell? ⟨w.heap.size + 1, 3, none⟩ = some (.slice none 0 0) := r1.cell 3
  go_upto_region 24 with (first | (at_builtin; refine wpList_app1 (v := .slice none 0 0) rfl _ _ rfl rfl (ownT_nil (w.heap.size + 2) 0 _) w1.heap.size root rfl (new_cell _ _ _) (by omega) (by rw [Go.Deep.nblk_alloc]; omega) ?_; intro b2 n2 c2 w2 o2 g2; have r2 := (r1.kept ((Only.refl _ w1).alloc _)).only g2 (fun i hi => hi.1); have d0 : w2.cell? ⟨w.heap.size + 1, 0, none⟩ = some (.int .u64 0) := r2.cell 0; have d1 : w2.cell? ⟨w.heap.size + 1, 1, none⟩ = some (.int .i64 0) := r2.cell 1; have d2 : w2.cell? ⟨w.heap.size + 1, 2, none⟩ = some (.int .i64 0) := r2.cell 2; have d3 : w2.cell? ⟨w.heap.size + 1, 3, none⟩ = some (.slice none 0 0) := r2.cell 3; have f0 := r2.loose 0; have f1 := r2.loose 1; have f2 := r2.loose 2; have f3 := r2.loose 3))
  have r3 := ((r2).set 3 (.slice (some ⟨b2, 0, none⟩) n2 c2)).set 2 (.int .i64 2)
  have q3 : Only (fun i => i < w.heap.size + 2) w2 (((w2).setCell ⟨w.heap.size + 1, 3, none⟩ (.slice (some ⟨b2, 0, none⟩) n2 c2)).setCell ⟨w.heap.size + 1, 2, none⟩ (.int .i64 2)) := ((Only.refl _ w2).setCell (by show w.heap.size + 1 < w.heap.size + 2; omega) _).setCell (by show w.heap.size + 1 < w.heap.size + 2; omega) _
  generalize ((w2).setCell ⟨w.heap.size + 1, 3, none⟩ (.slice (some ⟨b2, 0, none⟩) n2 c2)).setCell ⟨w.heap.size + 1, 2, none⟩ (.int .i64 2) = w3 at r3 q3 ⊢
  have x0 : w3.cell? ⟨w.heap.size + 1, 0, none⟩ = some (.int .u64 (0)) := r3.cell 0
  have x1 : w3.cell? ⟨w.heap.size + 1, 1, none⟩ = some (.int .i64 (0)) := r3.cell 1
  have x2 : w3.cell? ⟨w.heap.size + 1, 2, none⟩ = some (.int .i64 (2)) := r3.cell 2
  have x3 : w3.cell? ⟨w.heap.size + 1, 3, none⟩ = some (.slice (some ⟨b2, 0, none⟩) n2 c2) := r3.cell 3
  go_wp2_with (refine wpList_store_row rfl 88 _ _ rfl w.heap.size #[.int .u64 (0), .int .i64 (0), .int .i64 (2), (.slice (some ⟨b2, 0, none⟩) n2 c2)] rfl rfl 88 _ r3.r (wkd_size _ _ _ _) rfl (wkd_ones rfl) ?_)
  refine bodyPost_ret ?_ rfl ⟨(.slice (some ⟨b2, 0, none⟩) n2 c2), rfl, (((o2.past q3 fun _ h => h).past (only_row _ _ _) fun i hi => by omega).lower (Nat.le_add_right _ _)).more (by omega), r3.k.new (only_row _ _ _) fun i hi => by omega⟩
  exact results_cell_row rfl _ _ w.heap.size 88 _ (0, 0) _ rfl (setRow_heap _ _ _ _ _ _ r3.r) Tryd.underlying88 rfl (wkd_size _ _ _ _)
set_option maxRecDepth 10000 in
set_option maxHeartbeats 1000000 in
theorem rwalk_c (root at_ : Int) {w : World} {p q : Nat} {B : Nat → Int} (hm : RefAt w p q B) (h : ¬ 65536 ≤ at_) (ho : entO root (topI at_) = true) (hi : isE (entE B root (topI at_)) = false) :
    Calls Tryd.prog 39 #[.pointer (some ⟨p, 0, none⟩), .int .i64 root, .int .u64 at_] w fun e w' => ∃ v, e = .returned (.agg #[.int .u64 0, .int .i64 0, .int .i64 1, v]) ∧ OwnT w.heap.size 2 w' v ∧ Kept w w' := by
  have e1 : bits .and .u64 (at_ / 4096) 15 = topI at_ := u_low (at_ / 4096) 4 (by omega) 15 rfl
  have e2 : bits .and .u64 (at_ / 256) 15 = lowI at_ := u_low (at_ / 256) 4 (by omega) 15 rfl
  obtain ⟨t0, t1⟩ := top_bd at_
  obtain ⟨l0, l1⟩ := low_bd at_
  go_enter Tryd.func39, Tryd.ntmps39
  go_wp2_with fail
  refine (rentry_any root (topI at_) (hm.kept (WkR.new w #[.int .u64 0, .int .i64 0, .int .i64 0, .slice none 0 0]).k)).mono ?_
  rintro e w1 ⟨rfl, k1⟩
  rw [ho]
  have r1 := (WkR.new w #[.int .u64 0, .int .i64 0, .int .i64 0, .slice none 0 0]).kept k1
  have s1 := r1.size
  have m1 := hm.kept r1.k
  have c3 : w1.cell? ⟨w.heap.size + 1, 3, none⟩ = some (.slice none 0 0) := r1.cell 3
  go_upto_region 24 with (first | (at_builtin; refine wpList_app1 (v := .slice none 0 0) rfl _ _ rfl rfl (ownT_nil (w.heap.size + 2) 0 _) w1.heap.size root rfl (new_cell _ _ _) (by omega) (by rw [Go.Deep.nblk_alloc]; omega) ?_; intro b2 n2 c2 w2 o2 g2; have r2 := (r1.kept ((Only.refl _ w1).alloc _)).only g2 (fun i hi => hi.1); have d0 : w2.cell? ⟨w.heap.size + 1, 0, none⟩ = some (.int .u64 0) := r2.cell 0; have d1 : w2.cell? ⟨w.heap.size + 1, 1, none⟩ = some (.int .i64 0) := r2.cell 1; have d2 : w2.cell? ⟨w.heap.size + 1, 2, none⟩ = some (.int .i64 0) := r2.cell 2; have d3 : w2.cell? ⟨w.heap.size + 1, 3, none⟩ = some (.slice none 0 0) := r2.cell 3; have f0 := r2.loose 0; have f1 := r2.loose 1; have f2 := r2.loose 2; have f3 := r2.loose 3) | (go_at_call 58; refine (ris_of _ _).mono ?_; rintro e w' ⟨rfl, rfl⟩; rw [hi]))
  have r3 := ((r2).set 3 (.slice (some ⟨b2, 0, none⟩) n2 c2)).set 2 (.int .i64 1)
  have q3 : Only (fun i => i < w.heap.size + 2) w2 (((w2).setCell ⟨w.heap.size + 1, 3, none⟩ (.slice (some ⟨b2, 0, none⟩) n2 c2)).setCell ⟨w.heap.size + 1, 2, none⟩ (.int .i64 1)) := ((Only.refl _ w2).setCell (by show w.heap.size + 1 < w.heap.size + 2; omega) _).setCell (by show w.heap.size + 1 < w.heap.size + 2; omega) _
  generalize ((w2).setCell ⟨w.heap.size + 1, 3, none⟩ (.slice (some ⟨b2, 0, none⟩) n2 c2)).setCell ⟨w.heap.size + 1, 2, none⟩ (.int .i64 1) = w3 at r3 q3 ⊢
  have x0 : w3.cell? ⟨w.heap.size + 1, 0, none⟩ = some (.int .u64 (0)) := r3.cell 0
  have x1 : w3.cell? ⟨w.heap.size + 1, 1, none⟩ = some (.int .i64 (0)) := r3.cell 1
  have x2 : w3.cell? ⟨w.heap.size + 1, 2, none⟩ = some (.int .i64 (1)) := r3.cell 2
  have x3 : w3.cell? ⟨w.heap.size + 1, 3, none⟩ = some (.slice (some ⟨b2, 0, none⟩) n2 c2) := r3.cell 3
  go_wp2_with (refine wpList_store_row rfl 88 _ _ rfl w.heap.size #[.int .u64 (0), .int .i64 (0), .int .i64 (1), (.slice (some ⟨b2, 0, none⟩) n2 c2)] rfl rfl 88 _ r3.r (wkd_size _ _ _ _) rfl (wkd_ones rfl) ?_)
  refine bodyPost_ret ?_ rfl ⟨(.slice (some ⟨b2, 0, none⟩) n2 c2), rfl, (((o2.past q3 fun _ h => h).past (only_row _ _ _) fun i hi => by omega).lower (Nat.le_add_right _ _)).more (by omega), r3.k.new (only_row _ _ _) fun i hi => by omega⟩
  exact results_cell_row rfl _ _ w.heap.size 88 _ (0, 0) _ rfl (setRow_heap _ _ _ _ _ _ r3.r) Tryd.underlying88 rfl (wkd_size _ _ _ _)
set_option maxRecDepth 10000 in
set_option maxHeartbeats 1000000 in
theorem rwalk_d (root at_ : Int) {w : World} {p q : Nat} {B : Nat → Int} (hm : RefAt w p q B) (h : ¬ 65536 ≤ at_) (ho : entO root (topI at_) = true) (hi : isE (entE B root (topI at_)) = true) (hf : leafE (entE B root (topI at_)) = true) (hz : ¬ frI (entE B root (topI at_)) % 16 = 0) :
    Calls Tryd.prog 39 #[.pointer (some ⟨p, 0, none⟩), .int .i64 root, .int .u64 at_] w fun e w' => ∃ v, e = .returned (.agg #[.int .u64 0, .int .i64 0, .int .i64 1, v]) ∧ OwnT w.heap.size 2 w' v ∧ Kept w w' := by
  have hn : (bits .and .i64 (frI (entE B root (topI at_))) 15 != 0) = true := by
    rw [i_low (frI (entE B root (topI at_))) 4 (by omega) 15 rfl]
    exact bne_iff_ne.2 hz
  have e1 : bits .and .u64 (at_ / 4096) 15 = topI at_ := u_low (at_ / 4096) 4 (by omega) 15 rfl
  have e2 : bits .and .u64 (at_ / 256) 15 = lowI at_ := u_low (at_ / 256) 4 (by omega) 15 rfl
  obtain ⟨t0, t1⟩ := top_bd at_
  obtain ⟨l0, l1⟩ := low_bd at_
  go_enter Tryd.func39, Tryd.ntmps39
  go_wp2_with fail
  refine (rentry_any root (topI at_) (hm.kept (WkR.new w #[.int .u64 0, .int .i64 0, .int .i64 0, .slice none 0 0]).k)).mono ?_
  rintro e w1 ⟨rfl, k1⟩
  rw [ho]
  have r1 := (WkR.new w #[.int .u64 0, .int .i64 0, .int .i64 0, .slice none 0 0]).kept k1
  have s1 := r1.size
  have m1 := hm.kept r1.k
  have c3 : w1.cell? ⟨w.heap.size + 1, 3, none⟩ = some (.slice none 0 0) := r1.cell 3
  go_upto_region 24 with (first | (at_builtin; refine wpList_app1 (v := .slice none 0 0) rfl _ _ rfl rfl (ownT_nil (w.heap.size + 2) 0 _) w1.heap.size root rfl (new_cell _ _ _) (by omega) (by rw [Go.Deep.nblk_alloc]; omega) ?_; intro b2 n2 c2 w2 o2 g2; have r2 := (r1.kept ((Only.refl _ w1).alloc _)).only g2 (fun i hi => hi.1); have d0 : w2.cell? ⟨w.heap.size + 1, 0, none⟩ = some (.int .u64 0) := r2.cell 0; have d1 : w2.cell? ⟨w.heap.size + 1, 1, none⟩ = some (.int .i64 0) := r2.cell 1; have d2 : w2.cell? ⟨w.heap.size + 1, 2, none⟩ = some (.int .i64 0) := r2.cell 2; have d3 : w2.cell? ⟨w.heap.size + 1, 3, none⟩ = some (.slice none 0 0) := r2.cell 3; have f0 := r2.loose 0; have f1 := r2.loose 1; have f2 := r2.loose 2; have f3 := r2.loose 3) | (go_at_call 58; refine (ris_of _ _).mono ?_; rintro e w' ⟨rfl, rfl⟩; rw [hi]) | (go_at_call 59; refine (rleaf_of _ _).mono ?_; rintro e w' ⟨rfl, rfl⟩; rw [hf]) | (go_at_call 60; refine (rframe_of _ _).mono ?_; rintro e w' ⟨rfl, rfl⟩))
  have r3 := ((((((r2).set 3 (.slice (some ⟨b2, 0, none⟩) n2 c2)).set 0 (.int .u64 (entE B root (topI at_)))).set 1 (.int .i64 (bits .or .i64 (frI (entE B root (topI at_))) (lowI at_)))).set 0 (.int .u64 0)).set 1 (.int .i64 0)).set 2 (.int .i64 1)
  have q3 : Only (fun i => i < w.heap.size + 2) w2 (((((((w2).setCell ⟨w.heap.size + 1, 3, none⟩ (.slice (some ⟨b2, 0, none⟩) n2 c2)).setCell ⟨w.heap.size + 1, 0, none⟩ (.int .u64 (entE B root (topI at_)))).setCell ⟨w.heap.size + 1, 1, none⟩ (.int .i64 (bits .or .i64 (frI (entE B root (topI at_))) (lowI at_)))).setCell ⟨w.heap.size + 1, 0, none⟩ (.int .u64 0)).setCell ⟨w.heap.size + 1, 1, none⟩ (.int .i64 0)).setCell ⟨w.heap.size + 1, 2, none⟩ (.int .i64 1)) := ((((((Only.refl _ w2).setCell (by show w.heap.size + 1 < w.heap.size + 2; omega) _).setCell (by show w.heap.size + 1 < w.heap.size + 2; omega) _).setCell (by show w.heap.size + 1 < w.heap.size + 2; omega) _).setCell (by show w.heap.size + 1 < w.heap.size + 2; omega) _).setCell (by show w.heap.size + 1 < w.heap.size + 2; omega) _).setCell (by show w.heap.size + 1 < w.heap.size + 2; omega) _
  generalize ((((((w2).setCell ⟨w.heap.size + 1, 3, none⟩ (.slice (some ⟨b2, 0, none⟩) n2 c2)).setCell ⟨w.heap.size + 1, 0, none⟩ (.int .u64 (entE B root (topI at_)))).setCell ⟨w.heap.size + 1, 1, none⟩ (.int .i64 (bits .or .i64 (frI (entE B root (topI at_))) (lowI at_)))).setCell ⟨w.heap.size + 1, 0, none⟩ (.int .u64 0)).setCell ⟨w.heap.size + 1, 1, none⟩ (.int .i64 0)).setCell ⟨w.heap.size + 1, 2, none⟩ (.int .i64 1) = w3 at r3 q3 ⊢
  have x0 : w3.cell? ⟨w.heap.size + 1, 0, none⟩ = some (.int .u64 (0)) := r3.cell 0
  have x1 : w3.cell? ⟨w.heap.size + 1, 1, none⟩ = some (.int .i64 (0)) := r3.cell 1
  have x2 : w3.cell? ⟨w.heap.size + 1, 2, none⟩ = some (.int .i64 (1)) := r3.cell 2
  have x3 : w3.cell? ⟨w.heap.size + 1, 3, none⟩ = some (.slice (some ⟨b2, 0, none⟩) n2 c2) := r3.cell 3
  go_wp2_with (refine wpList_store_row rfl 88 _ _ rfl w.heap.size #[.int .u64 (0), .int .i64 (0), .int .i64 (1), (.slice (some ⟨b2, 0, none⟩) n2 c2)] rfl rfl 88 _ r3.r (wkd_size _ _ _ _) rfl (wkd_ones rfl) ?_)
  refine bodyPost_ret ?_ rfl ⟨(.slice (some ⟨b2, 0, none⟩) n2 c2), rfl, (((o2.past q3 fun _ h => h).past (only_row _ _ _) fun i hi => by omega).lower (Nat.le_add_right _ _)).more (by omega), r3.k.new (only_row _ _ _) fun i hi => by omega⟩
  exact results_cell_row rfl _ _ w.heap.size 88 _ (0, 0) _ rfl (setRow_heap _ _ _ _ _ _ r3.r) Tryd.underlying88 rfl (wkd_size _ _ _ _)
set_option maxRecDepth 10000 in
set_option maxHeartbeats 1000000 in
theorem rwalk_e (root at_ : Int) {w : World} {p q : Nat} {B : Nat → Int} (hm : RefAt w p q B) (h : ¬ 65536 ≤ at_) (ho : entO root (topI at_) = true) (hi : isE (entE B root (topI at_)) = true) (hf : leafE (entE B root (topI at_)) = true) (hz : frI (entE B root (topI at_)) % 16 = 0) :
    Calls Tryd.prog 39 #[.pointer (some ⟨p, 0, none⟩), .int .i64 root, .int .u64 at_] w fun e w' => ∃ v, e = .returned (.agg #[.int .u64 (entE B root (topI at_) + lowI at_ * 256), .int .i64 (frI (entE B root (topI at_)) + lowI at_), .int .i64 0, v]) ∧ OwnT w.heap.size 2 w' v ∧ Kept w w' := by
  have hn : (bits .and .i64 (frI (entE B root (topI at_))) 15 != 0) = false := by
    rw [i_low (frI (entE B root (topI at_))) 4 (by omega) 15 rfl]
    exact bne_eq_false_iff_eq.2 hz
  have hU := U_ent hm.byte root (topI at_)
  have g1 := great_or hU hi hz (low_bd at_).1 (low_bd at_).2
  have g2 := frame_or (fr_bd (entE B root (topI at_))).1 (fr_bd (entE B root (topI at_))).2 hz (low_bd at_).1 (low_bd at_).2
  clear hU
  have e1 : bits .and .u64 (at_ / 4096) 15 = topI at_ := u_low (at_ / 4096) 4 (by omega) 15 rfl
  have e2 : bits .and .u64 (at_ / 256) 15 = lowI at_ := u_low (at_ / 256) 4 (by omega) 15 rfl
  obtain ⟨t0, t1⟩ := top_bd at_
  obtain ⟨l0, l1⟩ := low_bd at_
  go_enter Tryd.func39, Tryd.ntmps39
  go_wp2_with fail
  refine (rentry_any root (topI at_) (hm.kept (WkR.new w #[.int .u64 0, .int .i64 0, .int .i64 0, .slice none 0 0]).k)).mono ?_
  rintro e w1 ⟨rfl, k1⟩
  rw [ho]
  have r1 := (WkR.new w #[.int .u64 0, .int .i64 0, .int .i64 0, .slice none 0 0]).kept k1
  have s1 := r1.size
  have m1 := hm.kept r1.k
  have c3 : w1.cell? ⟨w.heap.size + 1, 3, none⟩ = some (.slice none 0 0) := r1.cell 3
  go_upto_region 24 with (first | (at_builtin; refine wpList_app1 (v := .slice none 0 0) rfl _ _ rfl rfl (ownT_nil (w.heap.size + 2) 0 _) w1.heap.size root rfl (new_cell _ _ _) (by omega) (by rw [Go.Deep.nblk_alloc]; omega) ?_; intro b2 n2 c2 w2 o2 g2; have r2 := (r1.kept ((Only.refl _ w1).alloc _)).only g2 (fun i hi => hi.1); have d0 : w2.cell? ⟨w.heap.size + 1, 0, none⟩ = some (.int .u64 0) := r2.cell 0; have d1 : w2.cell? ⟨w.heap.size + 1, 1, none⟩ = some (.int .i64 0) := r2.cell 1; have d2 : w2.cell? ⟨w.heap.size + 1, 2, none⟩ = some (.int .i64 0) := r2.cell 2; have d3 : w2.cell? ⟨w.heap.size + 1, 3, none⟩ = some (.slice none 0 0) := r2.cell 3; have f0 := r2.loose 0; have f1 := r2.loose 1; have f2 := r2.loose 2; have f3 := r2.loose 3) | (go_at_call 58; refine (ris_of _ _).mono ?_; rintro e w' ⟨rfl, rfl⟩; rw [hi]) | (go_at_call 59; refine (rleaf_of _ _).mono ?_; rintro e w' ⟨rfl, rfl⟩; rw [hf]) | (go_at_call 60; refine (rframe_of _ _).mono ?_; rintro e w' ⟨rfl, rfl⟩))
  have r3 := ((((r2).set 3 (.slice (some ⟨b2, 0, none⟩) n2 c2)).set 0 (.int .u64 (entE B root (topI at_)))).set 1 (.int .i64 (frI (entE B root (topI at_)) + lowI at_))).set 0 (.int .u64 (entE B root (topI at_) + lowI at_ * 256))
  have q3 : Only (fun i => i < w.heap.size + 2) w2 (((((w2).setCell ⟨w.heap.size + 1, 3, none⟩ (.slice (some ⟨b2, 0, none⟩) n2 c2)).setCell ⟨w.heap.size + 1, 0, none⟩ (.int .u64 (entE B root (topI at_)))).setCell ⟨w.heap.size + 1, 1, none⟩ (.int .i64 (frI (entE B root (topI at_)) + lowI at_))).setCell ⟨w.heap.size + 1, 0, none⟩ (.int .u64 (entE B root (topI at_) + lowI at_ * 256))) := ((((Only.refl _ w2).setCell (by show w.heap.size + 1 < w.heap.size + 2; omega) _).setCell (by show w.heap.size + 1 < w.heap.size + 2; omega) _).setCell (by show w.heap.size + 1 < w.heap.size + 2; omega) _).setCell (by show w.heap.size + 1 < w.heap.size + 2; omega) _
  generalize ((((w2).setCell ⟨w.heap.size + 1, 3, none⟩ (.slice (some ⟨b2, 0, none⟩) n2 c2)).setCell ⟨w.heap.size + 1, 0, none⟩ (.int .u64 (entE B root (topI at_)))).setCell ⟨w.heap.size + 1, 1, none⟩ (.int .i64 (frI (entE B root (topI at_)) + lowI at_))).setCell ⟨w.heap.size + 1, 0, none⟩ (.int .u64 (entE B root (topI at_) + lowI at_ * 256)) = w3 at r3 q3 ⊢
  have x0 : w3.cell? ⟨w.heap.size + 1, 0, none⟩ = some (.int .u64 (entE B root (topI at_) + lowI at_ * 256)) := r3.cell 0
  have x1 : w3.cell? ⟨w.heap.size + 1, 1, none⟩ = some (.int .i64 (frI (entE B root (topI at_)) + lowI at_)) := r3.cell 1
  have x2 : w3.cell? ⟨w.heap.size + 1, 2, none⟩ = some (.int .i64 (0)) := r3.cell 2
  have x3 : w3.cell? ⟨w.heap.size + 1, 3, none⟩ = some (.slice (some ⟨b2, 0, none⟩) n2 c2) := r3.cell 3
  go_wp2_with (refine wpList_store_row rfl 88 _ _ rfl w.heap.size #[.int .u64 (entE B root (topI at_) + lowI at_ * 256), .int .i64 (frI (entE B root (topI at_)) + lowI at_), .int .i64 (0), (.slice (some ⟨b2, 0, none⟩) n2 c2)] rfl rfl 88 _ r3.r (wkd_size _ _ _ _) rfl (wkd_ones rfl) ?_)
  refine bodyPost_ret ?_ rfl ⟨(.slice (some ⟨b2, 0, none⟩) n2 c2), rfl, (((o2.past q3 fun _ h => h).past (only_row _ _ _) fun i hi => by omega).lower (Nat.le_add_right _ _)).more (by omega), r3.k.new (only_row _ _ _) fun i hi => by omega⟩
  exact results_cell_row rfl _ _ w.heap.size 88 _ (0, 0) _ rfl (setRow_heap _ _ _ _ _ _ r3.r) Tryd.underlying88 rfl (wkd_size _ _ _ _)
set_option maxRecDepth 10000 in
set_option maxHeartbeats 1000000 in
theorem rwalk_f (root at_ : Int) {w : World} {p q : Nat} {B : Nat → Int} (hm : RefAt w p q B) (h : ¬ 65536 ≤ at_) (ho : entO root (topI at_) = true) (hi : isE (entE B root (topI at_)) = true) (hf : leafE (entE B root (topI at_)) = false) (h2 : entO (frI (entE B root (topI at_))) (lowI at_) = false) :
    Calls Tryd.prog 39 #[.pointer (some ⟨p, 0, none⟩), .int .i64 root, .int .u64 at_] w fun e w' => ∃ v, e = .returned (.agg #[.int .u64 0, .int .i64 0, .int .i64 2, v]) ∧ OwnT w.heap.size 2 w' v ∧ Kept w w' := by
  have e1 : bits .and .u64 (at_ / 4096) 15 = topI at_ := u_low (at_ / 4096) 4 (by omega) 15 rfl
  have e2 : bits .and .u64 (at_ / 256) 15 = lowI at_ := u_low (at_ / 256) 4 (by omega) 15 rfl
  obtain ⟨t0, t1⟩ := top_bd at_
  obtain ⟨l0, l1⟩ := low_bd at_
  go_enter Tryd.func39, Tryd.ntmps39
  go_wp2_with fail
  refine (rentry_any root (topI at_) (hm.kept (WkR.new w #[.int .u64 0, .int .i64 0, .int .i64 0, .slice none 0 0]).k)).mono ?_
  rintro e w1 ⟨rfl, k1⟩
  rw [ho]
  have r1 := (WkR.new w #[.int .u64 0, .int .i64 0, .int .i64 0, .slice none 0 0]).kept k1
  have s1 := r1.size
  have m1 := hm.kept r1.k
  have c3 : w1.cell? ⟨w.heap.size + 1, 3, none⟩ = some (.slice none 0 0) := r1.cell 3
  go_upto_region 8 with (first | (at_builtin; refine wpList_app1 (v := .slice none 0 0) rfl _ _ rfl rfl (ownT_nil (w.heap.size + 2) 0 _) w1.heap.size root rfl (new_cell _ _ _) (by omega) (by rw [Go.Deep.nblk_alloc]; omega) ?_; intro b2 n2 c2 w2 o2 g2; have r2 := (r1.kept ((Only.refl _ w1).alloc _)).only g2 (fun i hi => hi.1); have d0 : w2.cell? ⟨w.heap.size + 1, 0, none⟩ = some (.int .u64 0) := r2.cell 0; have d1 : w2.cell? ⟨w.heap.size + 1, 1, none⟩ = some (.int .i64 0) := r2.cell 1; have d2 : w2.cell? ⟨w.heap.size + 1, 2, none⟩ = some (.int .i64 0) := r2.cell 2; have d3 : w2.cell? ⟨w.heap.size + 1, 3, none⟩ = some (.slice none 0 0) := r2.cell 3; have f0 := r2.loose 0; have f1 := r2.loose 1; have f2 := r2.loose 2; have f3 := r2.loose 3) | (go_at_call 58; refine (ris_of _ _).mono ?_; rintro e w' ⟨rfl, rfl⟩; rw [hi]) | (go_at_call 59; refine (rleaf_of _ _).mono ?_; rintro e w' ⟨rfl, rfl⟩; rw [hf]))
  have r3 := r2.set 3 (.slice (some ⟨b2, 0, none⟩) n2 c2)
  have o3 := o2.past (S := fun i => i = w.heap.size + 1) (only_cell w2 (w.heap.size + 1) 3 (.slice (some ⟨b2, 0, none⟩) n2 c2)) fun i hi => by omega
  generalize w2.setCell ⟨w.heap.size + 1, 3, none⟩ (.slice (some ⟨b2, 0, none⟩) n2 c2) = w3 at r3 o3 ⊢
  clear d0 d1 d2 d3 f0 f1 f2 f3 g2 r2 c3 e1
  have r3d := r3.kept ((Only.refl _ w3).drew)
  have o3d := o3.kept ((Only.refl _ w3).drew)
  have s3 := r3d.size
  go_cut [38] from 38 (fun _ wx => ∃ b4 n4 c4, OwnT (w.heap.size + 2) 2 wx (.slice (some ⟨b4, 0, none⟩) n4 c4) ∧ WkR w wx #[.int .u64 0, .int .i64 0, .int .i64 0, .slice (some ⟨b4, 0, none⟩) n4 c4])
  case first =>
    refine wp_region_held_drew (S := fun _ => True) (by kernel_rfl) trivial (fun hHeld => ?_)
    generalize w3.drew = wd at r3d o3d s3 ⊢
    have y3 : wd.cell? ⟨w.heap.size + 1, 3, none⟩ = some (.slice (some ⟨b2, 0, none⟩) n2 c2) := r3d.cell 3
    have ya : (wd.alloc (.cells #[.int .i64 (frI (entE B root (topI at_)))] 3)).cell? ⟨w.heap.size + 1, 3, none⟩ = some (.slice (some ⟨b2, 0, none⟩) n2 c2) := (r3d.kept ((Only.refl _ wd).alloc _)).cell 3
    refine wpAnyH_take (i := 0) (v := ?_) rfl (by kernel_rfl) (by kernel_rfl) (by kernel_rfl) (fun _ _ _ h => h) (Or.inl ⟨by rfl, ?_⟩) hHeld ?_
    rotate_left
    · intro _ _
      go_simp
      all_goals rfl
    simp only [Act.put, List.getElem_toArray, List.getElem_cons_zero, List.setIfInBounds_toArray, List.set_cons_zero, List.set_cons_succ]
    refine wpAnyH_take (i := 2) (v := ?_) rfl (by kernel_rfl) (by kernel_rfl) (by kernel_rfl) (fun _ _ _ h => h) (Or.inl ⟨by rfl, ?_⟩) hHeld ?_
    rotate_left
    · intro _ _
      go_simp
      all_goals rfl
    simp only [Act.put, List.getElem_toArray, List.getElem_cons_zero, List.getElem_cons_succ, List.setIfInBounds_toArray, List.set_cons_zero, List.set_cons_succ]
    refine wpAnyH_ready (rs := [1, 3]) (by kernel_rfl) (by simp) ?_
    refine AllReadyH.cons rfl (fun K hK => ?_) (AllReadyH.cons rfl (fun K hK => ?_) AllReadyH.nil)
    · go_simp
      refine hK.out _ _ trivial (fun hHeld => ?_)
      clear hK K
      try simp only [Act.put, List.setIfInBounds_toArray, List.set_cons_zero, List.set_cons_succ]
      refine wpAnyH_ready (rs := [3]) (by kernel_rfl) (by simp) ?_
      refine AllReadyH.cons rfl (fun K hK => ?_) AllReadyH.nil
      go_simp
      refine (rframe_of _ _).mono ?_
      rintro e wy ⟨rfl, hwy⟩
      rw [hwy]
      clear hwy wy
      go_simp
      refine hK.out _ _ trivial (fun hHeld => ?_)
      clear hK K
      try simp only [Act.put, List.setIfInBounds_toArray, List.set_cons_zero, List.set_cons_succ]
      refine wpAnyH_ready (rs := [4]) (by kernel_rfl) (by simp) ?_
      refine AllReadyH.cons rfl (fun K hK => ?_) AllReadyH.nil
      go_simp
      refine hK.out _ _ trivial (fun hHeld => ?_)
      clear hK K
      try simp only [Act.put, List.setIfInBounds_toArray, List.set_cons_zero, List.set_cons_succ]
      refine wpAnyH_ready (rs := [5]) (by kernel_rfl) (by simp) ?_
      refine AllReadyH.cons rfl (fun K hK => ?_) AllReadyH.nil
      refine step_app1 (v := (.slice (some ⟨b2, 0, none⟩) n2 c2)) rfl _ _ rfl rfl (o3d.kept ((Only.refl _ wd).alloc _)) wd.heap.size (frI (entE B root (topI at_))) rfl (new_cell _ _ _) (by omega) (by rw [Go.Deep.nblk_alloc]; omega) ?_
      intro b4 n4 c4 w4 o4 g4
      have r4 := (r3d.kept ((Only.refl _ wd).alloc _)).only g4 (fun i hi => hi.1)
      have z3 : w4.cell? ⟨w.heap.size + 1, 3, none⟩ = some (.slice (some ⟨b2, 0, none⟩) n2 c2) := r4.cell 3
      have h3 := r4.loose 3
      refine hK.out _ _ trivial (fun hHeld => ?_)
      clear hK K
      simp only [Act.put, List.setIfInBounds_toArray]
      refine wpAnyH_take (i := 6) (v := ?_) rfl (by kernel_rfl) (by kernel_rfl) (by kernel_rfl) (fun _ _ _ h => h) (Or.inl ⟨by rfl, ?_⟩) hHeld ?_
      rotate_left
      · intro _ _
        go_simp
        all_goals rfl
      simp only [Act.put, List.getElem_toArray, List.getElem_cons_zero, List.getElem_cons_succ, List.setIfInBounds_toArray, List.set_cons_zero, List.set_cons_succ]
      refine wpAnyH_ready (rs := [7]) (by kernel_rfl) (by simp) ?_
      refine AllReadyH.cons rfl (fun K hK => ?_) AllReadyH.nil
      go_simp
      refine hK.out _ _ trivial (fun hHeld => ?_)
      clear hK K
      refine wpAnyH_done (by kernel_rfl) ?_ _
      go_wp2_with fail
      go_meet
      exact ⟨b4, n4, c4, o4.past (only_cell w4 (w.heap.size + 1) 3 (.slice (some ⟨b4, 0, none⟩) n4 c4)) fun i hi => by omega, r4.set 3 (.slice (some ⟨b4, 0, none⟩) n4 c4)⟩
    · go_simp
      refine (rframe_of _ _).mono ?_
      rintro e wy ⟨rfl, hwy⟩
      rw [hwy]
      clear hwy wy
      go_simp
      refine hK.out _ _ trivial (fun hHeld => ?_)
      clear hK K
      try simp only [Act.put, List.setIfInBounds_toArray, List.set_cons_zero, List.set_cons_succ]
      refine wpAnyH_ready (rs := [1, 4]) (by kernel_rfl) (by simp) ?_
      refine AllReadyH.cons rfl (fun K hK => ?_) (AllReadyH.cons rfl (fun K hK => ?_) AllReadyH.nil)
      · go_simp
        refine hK.out _ _ trivial (fun hHeld => ?_)
        clear hK K
        try simp only [Act.put, List.setIfInBounds_toArray, List.set_cons_zero, List.set_cons_succ]
        refine wpAnyH_ready (rs := [4]) (by kernel_rfl) (by simp) ?_
        refine AllReadyH.cons rfl (fun K hK => ?_) AllReadyH.nil
        go_simp
        refine hK.out _ _ trivial (fun hHeld => ?_)
        clear hK K
        try simp only [Act.put, List.setIfInBounds_toArray, List.set_cons_zero, List.set_cons_succ]
        refine wpAnyH_ready (rs := [5]) (by kernel_rfl) (by simp) ?_
        refine AllReadyH.cons rfl (fun K hK => ?_) AllReadyH.nil
        refine step_app1 (v := (.slice (some ⟨b2, 0, none⟩) n2 c2)) rfl _ _ rfl rfl (o3d.kept ((Only.refl _ wd).alloc _)) wd.heap.size (frI (entE B root (topI at_))) rfl (new_cell _ _ _) (by omega) (by rw [Go.Deep.nblk_alloc]; omega) ?_
        intro b4 n4 c4 w4 o4 g4
        have r4 := (r3d.kept ((Only.refl _ wd).alloc _)).only g4 (fun i hi => hi.1)
        have z3 : w4.cell? ⟨w.heap.size + 1, 3, none⟩ = some (.slice (some ⟨b2, 0, none⟩) n2 c2) := r4.cell 3
        have h3 := r4.loose 3
        refine hK.out _ _ trivial (fun hHeld => ?_)
        clear hK K
        simp only [Act.put, List.setIfInBounds_toArray]
        refine wpAnyH_take (i := 6) (v := ?_) rfl (by kernel_rfl) (by kernel_rfl) (by kernel_rfl) (fun _ _ _ h => h) (Or.inl ⟨by rfl, ?_⟩) hHeld ?_
        rotate_left
        · intro _ _
          go_simp
          all_goals rfl
        simp only [Act.put, List.getElem_toArray, List.getElem_cons_zero, List.getElem_cons_succ, List.setIfInBounds_toArray, List.set_cons_zero, List.set_cons_succ]
        refine wpAnyH_ready (rs := [7]) (by kernel_rfl) (by simp) ?_
        refine AllReadyH.cons rfl (fun K hK => ?_) AllReadyH.nil
        go_simp
        refine hK.out _ _ trivial (fun hHeld => ?_)
        clear hK K
        refine wpAnyH_done (by kernel_rfl) ?_ _
        go_wp2_with fail
        go_meet
        exact ⟨b4, n4, c4, o4.past (only_cell w4 (w.heap.size + 1) 3 (.slice (some ⟨b4, 0, none⟩) n4 c4)) fun i hi => by omega, r4.set 3 (.slice (some ⟨b4, 0, none⟩) n4 c4)⟩
      · go_simp
        refine hK.out _ _ trivial (fun hHeld => ?_)
        clear hK K
        try simp only [Act.put, List.setIfInBounds_toArray, List.set_cons_zero, List.set_cons_succ]
        refine wpAnyH_ready (rs := [1]) (by kernel_rfl) (by simp) ?_
        refine AllReadyH.cons rfl (fun K hK => ?_) AllReadyH.nil
        go_simp
        refine hK.out _ _ trivial (fun hHeld => ?_)
        clear hK K
        try simp only [Act.put, List.setIfInBounds_toArray, List.set_cons_zero, List.set_cons_succ]
        refine wpAnyH_ready (rs := [5]) (by kernel_rfl) (by simp) ?_
        refine AllReadyH.cons rfl (fun K hK => ?_) AllReadyH.nil
        refine step_app1 (v := (.slice (some ⟨b2, 0, none⟩) n2 c2)) rfl _ _ rfl rfl (o3d.kept ((Only.refl _ wd).alloc _)) wd.heap.size (frI (entE B root (topI at_))) rfl (new_cell _ _ _) (by omega) (by rw [Go.Deep.nblk_alloc]; omega) ?_
        intro b4 n4 c4 w4 o4 g4
        have r4 := (r3d.kept ((Only.refl _ wd).alloc _)).only g4 (fun i hi => hi.1)
        have z3 : w4.cell? ⟨w.heap.size + 1, 3, none⟩ = some (.slice (some ⟨b2, 0, none⟩) n2 c2) := r4.cell 3
        have h3 := r4.loose 3
        refine hK.out _ _ trivial (fun hHeld => ?_)
        clear hK K
        simp only [Act.put, List.setIfInBounds_toArray]
        refine wpAnyH_take (i := 6) (v := ?_) rfl (by kernel_rfl) (by kernel_rfl) (by kernel_rfl) (fun _ _ _ h => h) (Or.inl ⟨by rfl, ?_⟩) hHeld ?_
        rotate_left
        · intro _ _
          go_simp
          all_goals rfl
        simp only [Act.put, List.getElem_toArray, List.getElem_cons_zero, List.getElem_cons_succ, List.setIfInBounds_toArray, List.set_cons_zero, List.set_cons_succ]
        refine wpAnyH_ready (rs := [7]) (by kernel_rfl) (by simp) ?_
        refine AllReadyH.cons rfl (fun K hK => ?_) AllReadyH.nil
        go_simp
        refine hK.out _ _ trivial (fun hHeld => ?_)
        clear hK K
        refine wpAnyH_done (by kernel_rfl) ?_ _
        go_wp2_with fail
        go_meet
        exact ⟨b4, n4, c4, o4.past (only_cell w4 (w.heap.size + 1) 3 (.slice (some ⟨b4, 0, none⟩) n4 c4)) fun i hi => by omega, r4.set 3 (.slice (some ⟨b4, 0, none⟩) n4 c4)⟩
  case rest =>
    obtain ⟨b4, n4, c4, o4, r4⟩ := hcut
    have m4 := hm.kept r4.k
    go_upto_region 24 with (first | (go_at_call 60; refine (rframe_of _ _).mono ?_; rintro e wy ⟨rfl, hwy⟩; rw [hwy]; clear hwy wy) | (go_at_call 62; refine (rentry_any _ _ m4).mono ?_; rintro e w5 ⟨rfl, k5⟩; rw [h2]; have o5 := o4.kept k5; have r5 := r4.kept k5; have d0 : w5.cell? ⟨w.heap.size + 1, 0, none⟩ = some (.int .u64 0) := r5.cell 0; have d1 : w5.cell? ⟨w.heap.size + 1, 1, none⟩ = some (.int .i64 0) := r5.cell 1; have d2 : w5.cell? ⟨w.heap.size + 1, 2, none⟩ = some (.int .i64 0) := r5.cell 2; have d3 : w5.cell? ⟨w.heap.size + 1, 3, none⟩ = some (.slice (some ⟨b4, 0, none⟩) n4 c4) := r5.cell 3; have f0 := r5.loose 0; have f1 := r5.loose 1; have f2 := r5.loose 2))
    have r3 := (r5).set 2 (.int .i64 2)
    have q3 : Only (fun i => i < w.heap.size + 2) w5 ((w5).setCell ⟨w.heap.size + 1, 2, none⟩ (.int .i64 2)) := (Only.refl _ w5).setCell (by show w.heap.size + 1 < w.heap.size + 2; omega) _
    generalize (w5).setCell ⟨w.heap.size + 1, 2, none⟩ (.int .i64 2) = w3 at r3 q3 ⊢
    have x0 : w3.cell? ⟨w.heap.size + 1, 0, none⟩ = some (.int .u64 (0)) := r3.cell 0
    have x1 : w3.cell? ⟨w.heap.size + 1, 1, none⟩ = some (.int .i64 (0)) := r3.cell 1
    have x2 : w3.cell? ⟨w.heap.size + 1, 2, none⟩ = some (.int .i64 (2)) := r3.cell 2
    have x3 : w3.cell? ⟨w.heap.size + 1, 3, none⟩ = some (.slice (some ⟨b4, 0, none⟩) n4 c4) := r3.cell 3
    go_wp2_with (refine wpList_store_row rfl 88 _ _ rfl w.heap.size #[.int .u64 (0), .int .i64 (0), .int .i64 (2), (.slice (some ⟨b4, 0, none⟩) n4 c4)] rfl rfl 88 _ r3.r (wkd_size _ _ _ _) rfl (wkd_ones rfl) ?_)
    refine bodyPost_ret ?_ rfl ⟨(.slice (some ⟨b4, 0, none⟩) n4 c4), rfl, (((o5.past q3 fun _ h => h).past (only_row _ _ _) fun i hi => by omega).lower (Nat.le_add_right _ _)).more (by omega), r3.k.new (only_row _ _ _) fun i hi => by omega⟩
    exact results_cell_row rfl _ _ w.heap.size 88 _ (0, 0) _ rfl (setRow_heap _ _ _ _ _ _ r3.r) Tryd.underlying88 rfl (wkd_size _ _ _ _)
set_option maxRecDepth 10000 in
set_option maxHeartbeats 1000000 in
theorem rwalk_g (root at_ : Int) {w : World} {p q : Nat} {B : Nat → Int} (hm : RefAt w p q B) (h : ¬ 65536 ≤ at_) (ho : entO root (topI at_) = true) (hi : isE (entE B root (topI at_)) = true) (hf : leafE (entE B root (topI at_)) = false) (h2 : entO (frI (entE B root (topI at_))) (lowI at_) = true) (h3 : leafE (entE B (frI (entE B root (topI at_))) (lowI at_)) = false) :
    Calls Tryd.prog 39 #[.pointer (some ⟨p, 0, none⟩), .int .i64 root, .int .u64 at_] w fun e w' => ∃ v, e = .returned (.agg #[.int .u64 0, .int .i64 0, .int .i64 1, v]) ∧ OwnT w.heap.size 2 w' v ∧ Kept w w' := by
  have e1 : bits .and .u64 (at_ / 4096) 15 = topI at_ := u_low (at_ / 4096) 4 (by omega) 15 rfl
  have e2 : bits .and .u64 (at_ / 256) 15 = lowI at_ := u_low (at_ / 256) 4 (by omega) 15 rfl
  obtain ⟨t0, t1⟩ := top_bd at_
  obtain ⟨l0, l1⟩ := low_bd at_
  go_enter Tryd.func39, Tryd.ntmps39
  go_wp2_with fail
  refine (rentry_any root (topI at_) (hm.kept (WkR.new w #[.int .u64 0, .int .i64 0, .int .i64 0, .slice none 0 0]).k)).mono ?_
  rintro e w1 ⟨rfl, k1⟩
  rw [ho]
  have r1 := (WkR.new w #[.int .u64 0, .int .i64 0, .int .i64 0, .slice none 0 0]).kept k1
  have s1 := r1.size
  have m1 := hm.kept r1.k
  have c3 : w1.cell? ⟨w.heap.size + 1, 3, none⟩ = some (.slice none 0 0) := r1.cell 3
  go_upto_region 8 with (first | (at_builtin; refine wpList_app1 (v := .slice none 0 0) rfl _ _ rfl rfl (ownT_nil (w.heap.size + 2) 0 _) w1.heap.size root rfl (new_cell _ _ _) (by omega) (by rw [Go.Deep.nblk_alloc]; omega) ?_; intro b2 n2 c2 w2 o2 g2; have r2 := (r1.kept ((Only.refl _ w1).alloc _)).only g2 (fun i hi => hi.1); have d0 : w2.cell? ⟨w.heap.size + 1, 0, none⟩ = some (.int .u64 0) := r2.cell 0; have d1 : w2.cell? ⟨w.heap.size + 1, 1, none⟩ = some (.int .i64 0) := r2.cell 1; have d2 : w2.cell? ⟨w.heap.size + 1, 2, none⟩ = some (.int .i64 0) := r2.cell 2; have d3 : w2.cell? ⟨w.heap.size + 1, 3, none⟩ = some (.slice none 0 0) := r2.cell 3; have f0 := r2.loose 0; have f1 := r2.loose 1; have f2 := r2.loose 2; have f3 := r2.loose 3) | (go_at_call 58; refine (ris_of _ _).mono ?_; rintro e w' ⟨rfl, rfl⟩; rw [hi]) | (go_at_call 59; refine (rleaf_of _ _).mono ?_; rintro e w' ⟨rfl, rfl⟩; rw [hf]))
  have r3 := r2.set 3 (.slice (some ⟨b2, 0, none⟩) n2 c2)
  have o3 := o2.past (S := fun i => i = w.heap.size + 1) (only_cell w2 (w.heap.size + 1) 3 (.slice (some ⟨b2, 0, none⟩) n2 c2)) fun i hi => by omega
  generalize w2.setCell ⟨w.heap.size + 1, 3, none⟩ (.slice (some ⟨b2, 0, none⟩) n2 c2) = w3 at r3 o3 ⊢
  clear d0 d1 d2 d3 f0 f1 f2 f3 g2 r2 c3 e1
  have r3d := r3.kept ((Only.refl _ w3).drew)
  have o3d := o3.kept ((Only.refl _ w3).drew)
  have s3 := r3d.size
  go_cut [38] from 38 (fun _ wx => ∃ b4 n4 c4, OwnT (w.heap.size + 2) 2 wx (.slice (some ⟨b4, 0, none⟩) n4 c4) ∧ WkR w wx #[.int .u64 0, .int .i64 0, .int .i64 0, .slice (some ⟨b4, 0, none⟩) n4 c4])
  case first =>
    refine wp_region_held_drew (S := fun _ => True) (by kernel_rfl) trivial (fun hHeld => ?_)
    generalize w3.drew = wd at r3d o3d s3 ⊢
    have y3 : wd.cell? ⟨w.heap.size + 1, 3, none⟩ = some (.slice (some ⟨b2, 0, none⟩) n2 c2) := r3d.cell 3
    have ya : (wd.alloc (.cells #[.int .i64 (frI (entE B root (topI at_)))] 3)).cell? ⟨w.heap.size + 1, 3, none⟩ = some (.slice (some ⟨b2, 0, none⟩) n2 c2) := (r3d.kept ((Only.refl _ wd).alloc _)).cell 3
    refine wpAnyH_take (i := 0) (v := ?_) rfl (by kernel_rfl) (by kernel_rfl) (by kernel_rfl) (fun _ _ _ h => h) (Or.inl ⟨by rfl, ?_⟩) hHeld ?_
    rotate_left
    · intro _ _
      go_simp
      all_goals rfl
    simp only [Act.put, List.getElem_toArray, List.getElem_cons_zero, List.setIfInBounds_toArray, List.set_cons_zero, List.set_cons_succ]
    refine wpAnyH_take (i := 2) (v := ?_) rfl (by kernel_rfl) (by kernel_rfl) (by kernel_rfl) (fun _ _ _ h => h) (Or.inl ⟨by rfl, ?_⟩) hHeld ?_
    rotate_left
    · intro _ _
      go_simp
      all_goals rfl
    simp only [Act.put, List.getElem_toArray, List.getElem_cons_zero, List.getElem_cons_succ, List.setIfInBounds_toArray, List.set_cons_zero, List.set_cons_succ]
    refine wpAnyH_ready (rs := [1, 3]) (by kernel_rfl) (by simp) ?_
    refine AllReadyH.cons rfl (fun K hK => ?_) (AllReadyH.cons rfl (fun K hK => ?_) AllReadyH.nil)
    · go_simp
      refine hK.out _ _ trivial (fun hHeld => ?_)
      clear hK K
      try simp only [Act.put, List.setIfInBounds_toArray, List.set_cons_zero, List.set_cons_succ]
      refine wpAnyH_ready (rs := [3]) (by kernel_rfl) (by simp) ?_
      refine AllReadyH.cons rfl (fun K hK => ?_) AllReadyH.nil
      go_simp
      refine (rframe_of _ _).mono ?_
      rintro e wy ⟨rfl, hwy⟩
      rw [hwy]
      clear hwy wy
      go_simp
      refine hK.out _ _ trivial (fun hHeld => ?_)
      clear hK K
      try simp only [Act.put, List.setIfInBounds_toArray, List.set_cons_zero, List.set_cons_succ]
      refine wpAnyH_ready (rs := [4]) (by kernel_rfl) (by simp) ?_
      refine AllReadyH.cons rfl (fun K hK => ?_) AllReadyH.nil
      go_simp
      refine hK.out _ _ trivial (fun hHeld => ?_)
      clear hK K
      try simp only [Act.put, List.setIfInBounds_toArray, List.set_cons_zero, List.set_cons_succ]
      refine wpAnyH_ready (rs := [5]) (by kernel_rfl) (by simp) ?_
      refine AllReadyH.cons rfl (fun K hK => ?_) AllReadyH.nil
      refine step_app1 (v := (.slice (some ⟨b2, 0, none⟩) n2 c2)) rfl _ _ rfl rfl (o3d.kept ((Only.refl _ wd).alloc _)) wd.heap.size (frI (entE B root (topI at_))) rfl (new_cell _ _ _) (by omega) (by rw [Go.Deep.nblk_alloc]; omega) ?_
      intro b4 n4 c4 w4 o4 g4
      have r4 := (r3d.kept ((Only.refl _ wd).alloc _)).only g4 (fun i hi => hi.1)
      have z3 : w4.cell? ⟨w.heap.size + 1, 3, none⟩ = some (.slice (some ⟨b2, 0, none⟩) n2 c2) := r4.cell 3
      have h3 := r4.loose 3
      refine hK.out _ _ trivial (fun hHeld => ?_)
      clear hK K
      simp only [Act.put, List.setIfInBounds_toArray]
      refine wpAnyH_take (i := 6) (v := ?_) rfl (by kernel_rfl) (by kernel_rfl) (by kernel_rfl) (fun _ _ _ h => h) (Or.inl ⟨by rfl, ?_⟩) hHeld ?_
      rotate_left
      · intro _ _
        go_simp
        all_goals rfl
      simp only [Act.put, List.getElem_toArray, List.getElem_cons_zero, List.getElem_cons_succ, List.setIfInBounds_toArray, List.set_cons_zero, List.set_cons_succ]
      refine wpAnyH_ready (rs := [7]) (by kernel_rfl) (by simp) ?_
      refine AllReadyH.cons rfl (fun K hK => ?_) AllReadyH.nil
      go_simp
      refine hK.out _ _ trivial (fun hHeld => ?_)
      clear hK K
      refine wpAnyH_done (by kernel_rfl) ?_ _
      go_wp2_with fail
      go_meet
      exact ⟨b4, n4, c4, o4.past (only_cell w4 (w.heap.size + 1) 3 (.slice (some ⟨b4, 0, none⟩) n4 c4)) fun i hi => by omega, r4.set 3 (.slice (some ⟨b4, 0, none⟩) n4 c4)⟩
    · go_simp
      refine (rframe_of _ _).mono ?_
      rintro e wy ⟨rfl, hwy⟩
      rw [hwy]
      clear hwy wy
      go_simp
      refine hK.out _ _ trivial (fun hHeld => ?_)
      clear hK K
      try simp only [Act.put, List.setIfInBounds_toArray, List.set_cons_zero, List.set_cons_succ]
      refine wpAnyH_ready (rs := [1, 4]) (by kernel_rfl) (by simp) ?_
      refine AllReadyH.cons rfl (fun K hK => ?_) (AllReadyH.cons rfl (fun K hK => ?_) AllReadyH.nil)
      · go_simp
        refine hK.out _ _ trivial (fun hHeld => ?_)
        clear hK K
        try simp only [Act.put, List.setIfInBounds_toArray, List.set_cons_zero, List.set_cons_succ]
        refine wpAnyH_ready (rs := [4]) (by kernel_rfl) (by simp) ?_
        refine AllReadyH.cons rfl (fun K hK => ?_) AllReadyH.nil
        go_simp
        refine hK.out _ _ trivial (fun hHeld => ?_)
        clear hK K
        try simp only [Act.put, List.setIfInBounds_toArray, List.set_cons_zero, List.set_cons_succ]
        refine wpAnyH_ready (rs := [5]) (by kernel_rfl) (by simp) ?_
        refine AllReadyH.cons rfl (fun K hK => ?_) AllReadyH.nil
        refine step_app1 (v := (.slice (some ⟨b2, 0, none⟩) n2 c2)) rfl _ _ rfl rfl (o3d.kept ((Only.refl _ wd).alloc _)) wd.heap.size (frI (entE B root (topI at_))) rfl (new_cell _ _ _) (by omega) (by rw [Go.Deep.nblk_alloc]; omega) ?_
        intro b4 n4 c4 w4 o4 g4
        have r4 := (r3d.kept ((Only.refl _ wd).alloc _)).only g4 (fun i hi => hi.1)
        have z3 : w4.cell? ⟨w.heap.size + 1, 3, none⟩ = some (.slice (some ⟨b2, 0, none⟩) n2 c2) := r4.cell 3
        have h3 := r4.loose 3
        refine hK.out _ _ trivial (fun hHeld => ?_)
        clear hK K
        simp only [Act.put, List.setIfInBounds_toArray]
        refine wpAnyH_take (i := 6) (v := ?_) rfl (by kernel_rfl) (by kernel_rfl) (by kernel_rfl) (fun _ _ _ h => h) (Or.inl ⟨by rfl, ?_⟩) hHeld ?_
        rotate_left
        · intro _ _
          go_simp
          all_goals rfl
        simp only [Act.put, List.getElem_toArray, List.getElem_cons_zero, List.getElem_cons_succ, List.setIfInBounds_toArray, List.set_cons_zero, List.set_cons_succ]
        refine wpAnyH_ready (rs := [7]) (by kernel_rfl) (by simp) ?_
        refine AllReadyH.cons rfl (fun K hK => ?_) AllReadyH.nil
        go_simp
        refine hK.out _ _ trivial (fun hHeld => ?_)
        clear hK K
        refine wpAnyH_done (by kernel_rfl) ?_ _
        go_wp2_with fail
        go_meet
        exact ⟨b4, n4, c4, o4.past (only_cell w4 (w.heap.size + 1) 3 (.slice (some ⟨b4, 0, none⟩) n4 c4)) fun i hi => by omega, r4.set 3 (.slice (some ⟨b4, 0, none⟩) n4 c4)⟩
      · go_simp
        refine hK.out _ _ trivial (fun hHeld => ?_)
        clear hK K
        try simp only [Act.put, List.setIfInBounds_toArray, List.set_cons_zero, List.set_cons_succ]
        refine wpAnyH_ready (rs := [1]) (by kernel_rfl) (by simp) ?_
        refine AllReadyH.cons rfl (fun K hK => ?_) AllReadyH.nil
        go_simp
        refine hK.out _ _ trivial (fun hHeld => ?_)
        clear hK K
        try simp only [Act.put, List.setIfInBounds_toArray, List.set_cons_zero, List.set_cons_succ]
        refine wpAnyH_ready (rs := [5]) (by kernel_rfl) (by simp) ?_
        refine AllReadyH.cons rfl (fun K hK => ?_) AllReadyH.nil
        refine step_app1 (v := (.slice (some ⟨b2, 0, none⟩) n2 c2)) rfl _ _ rfl rfl (o3d.kept ((Only.refl _ wd).alloc _)) wd.heap.size (frI (entE B root (topI at_))) rfl (new_cell _ _ _) (by omega) (by rw [Go.Deep.nblk_alloc]; omega) ?_
        intro b4 n4 c4 w4 o4 g4
        have r4 := (r3d.kept ((Only.refl _ wd).alloc _)).only g4 (fun i hi => hi.1)
        have z3 : w4.cell? ⟨w.heap.size + 1, 3, none⟩ = some (.slice (some ⟨b2, 0, none⟩) n2 c2) := r4.cell 3
        have h3 := r4.loose 3
        refine hK.out _ _ trivial (fun hHeld => ?_)
        clear hK K
        simp only [Act.put, List.setIfInBounds_toArray]
        refine wpAnyH_take (i := 6) (v := ?_) rfl (by kernel_rfl) (by kernel_rfl) (by kernel_rfl) (fun _ _ _ h => h) (Or.inl ⟨by rfl, ?_⟩) hHeld ?_
        rotate_left
        · intro _ _
          go_simp
          all_goals rfl
        simp only [Act.put, List.getElem_toArray, List.getElem_cons_zero, List.getElem_cons_succ, List.setIfInBounds_toArray, List.set_cons_zero, List.set_cons_succ]
        refine wpAnyH_ready (rs := [7]) (by kernel_rfl) (by simp) ?_
        refine AllReadyH.cons rfl (fun K hK => ?_) AllReadyH.nil
        go_simp
        refine hK.out _ _ trivial (fun hHeld => ?_)
        clear hK K
        refine wpAnyH_done (by kernel_rfl) ?_ _
        go_wp2_with fail
        go_meet
        exact ⟨b4, n4, c4, o4.past (only_cell w4 (w.heap.size + 1) 3 (.slice (some ⟨b4, 0, none⟩) n4 c4)) fun i hi => by omega, r4.set 3 (.slice (some ⟨b4, 0, none⟩) n4 c4)⟩
  case rest =>
    obtain ⟨b4, n4, c4, o4, r4⟩ := hcut
    have m4 := hm.kept r4.k
    go_upto_region 24 with (first | (go_at_call 60; refine (rframe_of _ _).mono ?_; rintro e wy ⟨rfl, hwy⟩; rw [hwy]; clear hwy wy) | (go_at_call 62; refine (rentry_any _ _ m4).mono ?_; rintro e w5 ⟨rfl, k5⟩; rw [h2]; have o5 := o4.kept k5; have r5 := r4.kept k5; have d0 : w5.cell? ⟨w.heap.size + 1, 0, none⟩ = some (.int .u64 0) := r5.cell 0; have d1 : w5.cell? ⟨w.heap.size + 1, 1, none⟩ = some (.int .i64 0) := r5.cell 1; have d2 : w5.cell? ⟨w.heap.size + 1, 2, none⟩ = some (.int .i64 0) := r5.cell 2; have d3 : w5.cell? ⟨w.heap.size + 1, 3, none⟩ = some (.slice (some ⟨b4, 0, none⟩) n4 c4) := r5.cell 3; have f0 := r5.loose 0; have f1 := r5.loose 1; have f2 := r5.loose 2) | (go_at_call 59; refine (rleaf_of _ _).mono ?_; rintro e wy ⟨rfl, hwy⟩; rw [h3, hwy]; clear hwy wy))
    have r3 := (r5).set 2 (.int .i64 1)
    have q3 : Only (fun i => i < w.heap.size + 2) w5 ((w5).setCell ⟨w.heap.size + 1, 2, none⟩ (.int .i64 1)) := (Only.refl _ w5).setCell (by show w.heap.size + 1 < w.heap.size + 2; omega) _
    generalize (w5).setCell ⟨w.heap.size + 1, 2, none⟩ (.int .i64 1) = w3 at r3 q3 ⊢
    have x0 : w3.cell? ⟨w.heap.size + 1, 0, none⟩ = some (.int .u64 (0)) := r3.cell 0
    have x1 : w3.cell? ⟨w.heap.size + 1, 1, none⟩ = some (.int .i64 (0)) := r3.cell 1
    have x2 : w3.cell? ⟨w.heap.size + 1, 2, none⟩ = some (.int .i64 (1)) := r3.cell 2
    have x3 : w3.cell? ⟨w.heap.size + 1, 3, none⟩ = some (.slice (some ⟨b4, 0, none⟩) n4 c4) := r3.cell 3
    go_wp2_with (refine wpList_store_row rfl 88 _ _ rfl w.heap.size #[.int .u64 (0), .int .i64 (0), .int .i64 (1), (.slice (some ⟨b4, 0, none⟩) n4 c4)] rfl rfl 88 _ r3.r (wkd_size _ _ _ _) rfl (wkd_ones rfl) ?_)
    refine bodyPost_ret ?_ rfl ⟨(.slice (some ⟨b4, 0, none⟩) n4 c4), rfl, (((o5.past q3 fun _ h => h).past (only_row _ _ _) fun i hi => by omega).lower (Nat.le_add_right _ _)).more (by omega), r3.k.new (only_row _ _ _) fun i hi => by omega⟩
    exact results_cell_row rfl _ _ w.heap.size 88 _ (0, 0) _ rfl (setRow_heap _ _ _ _ _ _ r3.r) Tryd.underlying88 rfl (wkd_size _ _ _ _)
set_option maxRecDepth 10000 in
set_option maxHeartbeats 1000000 in
theorem rwalk_h (root at_ : Int) {w : World} {p q : Nat} {B : Nat → Int} (hm : RefAt w p q B) (h : ¬ 65536 ≤ at_) (ho : entO root (topI at_) = true) (hi : isE (entE B root (topI at_)) = true) (hf : leafE (entE B root (topI at_)) = false) (h2 : entO (frI (entE B root (topI at_))) (lowI at_) = true) (h3 : leafE (entE B (frI (entE B root (topI at_))) (lowI at_)) = true) :
    Calls Tryd.prog 39 #[.pointer (some ⟨p, 0, none⟩), .int .i64 root, .int .u64 at_] w fun e w' => ∃ v, e = .returned (.agg #[.int .u64 (entE B (frI (entE B root (topI at_))) (lowI at_)), .int .i64 (frI (entE B (frI (entE B root (topI at_))) (lowI at_))), .int .i64 0, v]) ∧ OwnT w.heap.size 2 w' v ∧ Kept w w' := by
  have e1 : bits .and .u64 (at_ / 4096) 15 = topI at_ := u_low (at_ / 4096) 4 (by omega) 15 rfl
  have e2 : bits .and .u64 (at_ / 256) 15 = lowI at_ := u_low (at_ / 256) 4 (by omega) 15 rfl
  obtain ⟨t0, t1⟩ := top_bd at_
  obtain ⟨l0, l1⟩ := low_bd at_
  go_enter Tryd.func39, Tryd.ntmps39
  go_wp2_with fail
  refine (rentry_any root (topI at_) (hm.kept (WkR.new w #[.int .u64 0, .int .i64 0, .int .i64 0, .slice none 0 0]).k)).mono ?_
  rintro e w1 ⟨rfl, k1⟩
  rw [ho]
  have r1 := (WkR.new w #[.int .u64 0, .int .i64 0, .int .i64 0, .slice none 0 0]).kept k1
  have s1 := r1.size
  have m1 := hm.kept r1.k
  have c3 : w1.cell? ⟨w.heap.size + 1, 3, none⟩ = some (.slice none 0 0) := r1.cell 3
  go_upto_region 8 with (first | (at_builtin; refine wpList_app1 (v := .slice none 0 0) rfl _ _ rfl rfl (ownT_nil (w.heap.size + 2) 0 _) w1.heap.size root rfl (new_cell _ _ _) (by omega) (by rw [Go.Deep.nblk_alloc]; omega) ?_; intro b2 n2 c2 w2 o2 g2; have r2 := (r1.kept ((Only.refl _ w1).alloc _)).only g2 (fun i hi => hi.1); have d0 : w2.cell? ⟨w.heap.size + 1, 0, none⟩ = some (.int .u64 0) := r2.cell 0; have d1 : w2.cell? ⟨w.heap.size + 1, 1, none⟩ = some (.int .i64 0) := r2.cell 1; have d2 : w2.cell? ⟨w.heap.size + 1, 2, none⟩ = some (.int .i64 0) := r2.cell 2; have d3 : w2.cell? ⟨w.heap.size + 1, 3, none⟩ = some (.slice none 0 0) := r2.cell 3; have f0 := r2.loose 0; have f1 := r2.loose 1; have f2 := r2.loose 2; have f3 := r2.loose 3) | (go_at_call 58; refine (ris_of _ _).mono ?_; rintro e w' ⟨rfl, rfl⟩; rw [hi]) | (go_at_call 59; refine (rleaf_of _ _).mono ?_; rintro e w' ⟨rfl, rfl⟩; rw [hf]))
  have r3 := r2.set 3 (.slice (some ⟨b2, 0, none⟩) n2 c2)
  have o3 := o2.past (S := fun i => i = w.heap.size + 1) (only_cell w2 (w.heap.size + 1) 3 (.slice (some ⟨b2, 0, none⟩) n2 c2)) fun i hi => by omega
  generalize w2.setCell ⟨w.heap.size + 1, 3, none⟩ (.slice (some ⟨b2, 0, none⟩) n2 c2) = w3 at r3 o3 ⊢
  clear d0 d1 d2 d3 f0 f1 f2 f3 g2 r2 c3 e1
  have r3d := r3.kept ((Only.refl _ w3).drew)
  have o3d := o3.kept ((Only.refl _ w3).drew)
  have s3 := r3d.size
  go_cut [38] from 38 (fun _ wx => ∃ b4 n4 c4, OwnT (w.heap.size + 2) 2 wx (.slice (some ⟨b4, 0, none⟩) n4 c4) ∧ WkR w wx #[.int .u64 0, .int .i64 0, .int .i64 0, .slice (some ⟨b4, 0, none⟩) n4 c4])
  case first =>
    refine wp_region_held_drew (S := fun _ => True) (by kernel_rfl) trivial (fun hHeld => ?_)
    generalize w3.drew = wd at r3d o3d s3 ⊢
    have y3 : wd.cell? ⟨w.heap.size + 1, 3, none⟩ = some (.slice (some ⟨b2, 0, none⟩) n2 c2) := r3d.cell 3
    have ya : (wd.alloc (.cells #[.int .i64 (frI (entE B root (topI at_)))] 3)).cell? ⟨w.heap.size + 1, 3, none⟩ = some (.slice (some ⟨b2, 0, none⟩) n2 c2) := (r3d.kept ((Only.refl _ wd).alloc _)).cell 3
    refine wpAnyH_take (i := 0) (v := ?_) rfl (by kernel_rfl) (by kernel_rfl) (by kernel_rfl) (fun _ _ _ h => h) (Or.inl ⟨by rfl, ?_⟩) hHeld ?_
    rotate_left
    · intro _ _
      go_simp
      all_goals rfl
    simp only [Act.put, List.getElem_toArray, List.getElem_cons_zero, List.setIfInBounds_toArray, List.set_cons_zero, List.set_cons_succ]
    refine wpAnyH_take (i := 2) (v := ?_) rfl (by kernel_rfl) (by kernel_rfl) (by kernel_rfl) (fun _ _ _ h => h) (Or.inl ⟨by rfl, ?_⟩) hHeld ?_
    rotate_left
    · intro _ _
      go_simp
      all_goals rfl
    simp only [Act.put, List.getElem_toArray, List.getElem_cons_zero, List.getElem_cons_succ, List.setIfInBounds_toArray, List.set_cons_zero, List.set_cons_succ]
    refine wpAnyH_ready (rs := [1, 3]) (by kernel_rfl) (by simp) ?_
    refine AllReadyH.cons rfl (fun K hK => ?_) (AllReadyH.cons rfl (fun K hK => ?_) AllReadyH.nil)
    · go_simp
      refine hK.out _ _ trivial (fun hHeld => ?_)
      clear hK K
      try simp only [Act.put, List.setIfInBounds_toArray, List.set_cons_zero, List.set_cons_succ]
      refine wpAnyH_ready (rs := [3]) (by kernel_rfl) (by simp) ?_
      refine AllReadyH.cons rfl (fun K hK => ?_) AllReadyH.nil
      go_simp
      refine (rframe_of _ _).mono ?_
      rintro e wy ⟨rfl, hwy⟩
      rw [hwy]
      clear hwy wy
      go_simp
      refine hK.out _ _ trivial (fun hHeld => ?_)
      clear hK K
      try simp only [Act.put, List.setIfInBounds_toArray, List.set_cons_zero, List.set_cons_succ]
      refine wpAnyH_ready (rs := [4]) (by kernel_rfl) (by simp) ?_
      refine AllReadyH.cons rfl (fun K hK => ?_) AllReadyH.nil
      go_simp
      refine hK.out _ _ trivial (fun hHeld => ?_)
      clear hK K
      try simp only [Act.put, List.setIfInBounds_toArray, List.set_cons_zero, List.set_cons_succ]
      refine wpAnyH_ready (rs := [5]) (by kernel_rfl) (by simp) ?_
      refine AllReadyH.cons rfl (fun K hK => ?_) AllReadyH.nil
      refine step_app1 (v := (.slice (some ⟨b2, 0, none⟩) n2 c2)) rfl _ _ rfl rfl (o3d.kept ((Only.refl _ wd).alloc _)) wd.heap.size (frI (entE B root (topI at_))) rfl (new_cell _ _ _) (by omega) (by rw [Go.Deep.nblk_alloc]; omega) ?_
      intro b4 n4 c4 w4 o4 g4
      have r4 := (r3d.kept ((Only.refl _ wd).alloc _)).only g4 (fun i hi => hi.1)
      have z3 : w4.cell? ⟨w.heap.size + 1, 3, none⟩ = some (.slice (some ⟨b2, 0, none⟩) n2 c2) := r4.cell 3
      have h3 := r4.loose 3
      refine hK.out _ _ trivial (fun hHeld => ?_)
      clear hK K
      simp only [Act.put, List.setIfInBounds_toArray]
      refine wpAnyH_take (i := 6) (v := ?_) rfl (by kernel_rfl) (by kernel_rfl) (by kernel_rfl) (fun _ _ _ h => h) (Or.inl ⟨by rfl, ?_⟩) hHeld ?_
      rotate_left
      · intro _ _
        go_simp
        all_goals rfl
      simp only [Act.put, List.getElem_toArray, List.getElem_cons_zero, List.getElem_cons_succ, List.setIfInBounds_toArray, List.set_cons_zero, List.set_cons_succ]
      refine wpAnyH_ready (rs := [7]) (by kernel_rfl) (by simp) ?_
      refine AllReadyH.cons rfl (fun K hK => ?_) AllReadyH.nil
      go_simp
      refine hK.out _ _ trivial (fun hHeld => ?_)
      clear hK K
      refine wpAnyH_done (by kernel_rfl) ?_ _
      go_wp2_with fail
      go_meet
      exact ⟨b4, n4, c4, o4.past (only_cell w4 (w.heap.size + 1) 3 (.slice (some ⟨b4, 0, none⟩) n4 c4)) fun i hi => by omega, r4.set 3 (.slice (some ⟨b4, 0, none⟩) n4 c4)⟩
    · go_simp
      refine (rframe_of _ _).mono ?_
      rintro e wy ⟨rfl, hwy⟩
      rw [hwy]
      clear hwy wy
      go_simp
      refine hK.out _ _ trivial (fun hHeld => ?_)
      clear hK K
      try simp only [Act.put, List.setIfInBounds_toArray, List.set_cons_zero, List.set_cons_succ]
      refine wpAnyH_ready (rs := [1, 4]) (by kernel_rfl) (by simp) ?_
      refine AllReadyH.cons rfl (fun K hK => ?_) (AllReadyH.cons rfl (fun K hK => ?_) AllReadyH.nil)
      · go_simp
        refine hK.out _ _ trivial (fun hHeld => ?_)
        clear hK K
        try simp only [Act.put, List.setIfInBounds_toArray, List.set_cons_zero, List.set_cons_succ]
        refine wpAnyH_ready (rs := [4]) (by kernel_rfl) (by simp) ?_
        refine AllReadyH.cons rfl (fun K hK => ?_) AllReadyH.nil
        go_simp
        refine hK.out _ _ trivial (fun hHeld => ?_)
        clear hK K
        try simp only [Act.put, List.setIfInBounds_toArray, List.set_cons_zero, List.set_cons_succ]
        refine wpAnyH_ready (rs := [5]) (by kernel_rfl) (by simp) ?_
        refine AllReadyH.cons rfl (fun K hK => ?_) AllReadyH.nil
        refine step_app1 (v := (.slice (some ⟨b2, 0, none⟩) n2 c2)) rfl _ _ rfl rfl (o3d.kept ((Only.refl _ wd).alloc _)) wd.heap.size (frI (entE B root (topI at_))) rfl (new_cell _ _ _) (by omega) (by rw [Go.Deep.nblk_alloc]; omega) ?_
        intro b4 n4 c4 w4 o4 g4
        have r4 := (r3d.kept ((Only.refl _ wd).alloc _)).only g4 (fun i hi => hi.1)
        have z3 : w4.cell? ⟨w.heap.size + 1, 3, none⟩ = some (.slice (some ⟨b2, 0, none⟩) n2 c2) := r4.cell 3
        have h3 := r4.loose 3
        refine hK.out _ _ trivial (fun hHeld => ?_)
        clear hK K
        simp only [Act.put, List.setIfInBounds_toArray]
        refine wpAnyH_take (i := 6) (v := ?_) rfl (by kernel_rfl) (by kernel_rfl) (by kernel_rfl) (fun _ _ _ h => h) (Or.inl ⟨by rfl, ?_⟩) hHeld ?_
        rotate_left
        · intro _ _
          go_simp
          all_goals rfl
        simp only [Act.put, List.getElem_toArray, List.getElem_cons_zero, List.getElem_cons_succ, List.setIfInBounds_toArray, List.set_cons_zero, List.set_cons_succ]
        refine wpAnyH_ready (rs := [7]) (by kernel_rfl) (by simp) ?_
        refine AllReadyH.cons rfl (fun K hK => ?_) AllReadyH.nil
        go_simp
        refine hK.out _ _ trivial (fun hHeld => ?_)
        clear hK K
        refine wpAnyH_done (by kernel_rfl) ?_ _
        go_wp2_with fail
        go_meet
        exact ⟨b4, n4, c4, o4.past (only_cell w4 (w.heap.size + 1) 3 (.slice (some ⟨b4, 0, none⟩) n4 c4)) fun i hi => by omega, r4.set 3 (.slice (some ⟨b4, 0, none⟩) n4 c4)⟩
      · go_simp
        refine hK.out _ _ trivial (fun hHeld => ?_)
        clear hK K
        try simp only [Act.put, List.setIfInBounds_toArray, List.set_cons_zero, List.set_cons_succ]
        refine wpAnyH_ready (rs := [1]) (by kernel_rfl) (by simp) ?_
        refine AllReadyH.cons rfl (fun K hK => ?_) AllReadyH.nil
        go_simp
        refine hK.out _ _ trivial (fun hHeld => ?_)
        clear hK K
        try simp only [Act.put, List.setIfInBounds_toArray, List.set_cons_zero, List.set_cons_succ]
        refine wpAnyH_ready (rs := [5]) (by kernel_rfl) (by simp) ?_
        refine AllReadyH.cons rfl (fun K hK => ?_) AllReadyH.nil
        refine step_app1 (v := (.slice (some ⟨b2, 0, none⟩) n2 c2)) rfl _ _ rfl rfl (o3d.kept ((Only.refl _ wd).alloc _)) wd.heap.size (frI (entE B root (topI at_))) rfl (new_cell _ _ _) (by omega) (by rw [Go.Deep.nblk_alloc]; omega) ?_
        intro b4 n4 c4 w4 o4 g4
        have r4 := (r3d.kept ((Only.refl _ wd).alloc _)).only g4 (fun i hi => hi.1)
        have z3 : w4.cell? ⟨w.heap.size + 1, 3, none⟩ = some (.slice (some ⟨b2, 0, none⟩) n2 c2) := r4.cell 3
        have h3 := r4.loose 3
        refine hK.out _ _ trivial (fun hHeld => ?_)
        clear hK K
        simp only [Act.put, List.setIfInBounds_toArray]
        refine wpAnyH_take (i := 6) (v := ?_) rfl (by kernel_rfl) (by kernel_rfl) (by kernel_rfl) (fun _ _ _ h => h) (Or.inl ⟨by rfl, ?_⟩) hHeld ?_
        rotate_left
        · intro _ _
          go_simp
          all_goals rfl
        simp only [Act.put, List.getElem_toArray, List.getElem_cons_zero, List.getElem_cons_succ, List.setIfInBounds_toArray, List.set_cons_zero, List.set_cons_succ]
        refine wpAnyH_ready (rs := [7]) (by kernel_rfl) (by simp) ?_
        refine AllReadyH.cons rfl (fun K hK => ?_) AllReadyH.nil
        go_simp
        refine hK.out _ _ trivial (fun hHeld => ?_)
        clear hK K
        refine wpAnyH_done (by kernel_rfl) ?_ _
        go_wp2_with fail
        go_meet
        exact ⟨b4, n4, c4, o4.past (only_cell w4 (w.heap.size + 1) 3 (.slice (some ⟨b4, 0, none⟩) n4 c4)) fun i hi => by omega, r4.set 3 (.slice (some ⟨b4, 0, none⟩) n4 c4)⟩
  case rest =>
    obtain ⟨b4, n4, c4, o4, r4⟩ := hcut
    have m4 := hm.kept r4.k
    go_upto_region 24 with (first | (go_at_call 60; refine (rframe_of _ _).mono ?_; rintro e wy ⟨rfl, hwy⟩; rw [hwy]; clear hwy wy) | (go_at_call 62; refine (rentry_any _ _ m4).mono ?_; rintro e w5 ⟨rfl, k5⟩; rw [h2]; have o5 := o4.kept k5; have r5 := r4.kept k5; have d0 : w5.cell? ⟨w.heap.size + 1, 0, none⟩ = some (.int .u64 0) := r5.cell 0; have d1 : w5.cell? ⟨w.heap.size + 1, 1, none⟩ = some (.int .i64 0) := r5.cell 1; have d2 : w5.cell? ⟨w.heap.size + 1, 2, none⟩ = some (.int .i64 0) := r5.cell 2; have d3 : w5.cell? ⟨w.heap.size + 1, 3, none⟩ = some (.slice (some ⟨b4, 0, none⟩) n4 c4) := r5.cell 3; have f0 := r5.loose 0; have f1 := r5.loose 1; have f2 := r5.loose 2) | (go_at_call 59; refine (rleaf_of _ _).mono ?_; rintro e wy ⟨rfl, hwy⟩; rw [h3, hwy]; clear hwy wy))
    have r3 := ((r5).set 0 (.int .u64 (entE B (frI (entE B root (topI at_))) (lowI at_)))).set 1 (.int .i64 (frI (entE B (frI (entE B root (topI at_))) (lowI at_))))
    have q3 : Only (fun i => i < w.heap.size + 2) w5 (((w5).setCell ⟨w.heap.size + 1, 0, none⟩ (.int .u64 (entE B (frI (entE B root (topI at_))) (lowI at_)))).setCell ⟨w.heap.size + 1, 1, none⟩ (.int .i64 (frI (entE B (frI (entE B root (topI at_))) (lowI at_))))) := ((Only.refl _ w5).setCell (by show w.heap.size + 1 < w.heap.size + 2; omega) _).setCell (by show w.heap.size + 1 < w.heap.size + 2; omega) _
    generalize ((w5).setCell ⟨w.heap.size + 1, 0, none⟩ (.int .u64 (entE B (frI (entE B root (topI at_))) (lowI at_)))).setCell ⟨w.heap.size + 1, 1, none⟩ (.int .i64 (frI (entE B (frI (entE B root (topI at_))) (lowI at_)))) = w3 at r3 q3 ⊢
    have x0 : w3.cell? ⟨w.heap.size + 1, 0, none⟩ = some (.int .u64 ((entE B (frI (entE B root (topI at_))) (lowI at_)))) := r3.cell 0
    have x1 : w3.cell? ⟨w.heap.size + 1, 1, none⟩ = some (.int .i64 ((frI (entE B (frI (entE B root (topI at_))) (lowI at_))))) := r3.cell 1
    have x2 : w3.cell? ⟨w.heap.size + 1, 2, none⟩ = some (.int .i64 (0)) := r3.cell 2
    have x3 : w3.cell? ⟨w.heap.size + 1, 3, none⟩ = some (.slice (some ⟨b4, 0, none⟩) n4 c4) := r3.cell 3
    go_wp2_with (refine wpList_store_row rfl 88 _ _ rfl w.heap.size #[.int .u64 ((entE B (frI (entE B root (topI at_))) (lowI at_))), .int .i64 ((frI (entE B (frI (entE B root (topI at_))) (lowI at_)))), .int .i64 (0), (.slice (some ⟨b4, 0, none⟩) n4 c4)] rfl rfl 88 _ r3.r (wkd_size _ _ _ _) rfl (wkd_ones rfl) ?_)
    refine bodyPost_ret ?_ rfl ⟨(.slice (some ⟨b4, 0, none⟩) n4 c4), rfl, (((o5.past q3 fun _ h => h).past (only_row _ _ _) fun i hi => by omega).lower (Nat.le_add_right _ _)).more (by omega), r3.k.new (only_row _ _ _) fun i hi => by omega⟩
    exact results_cell_row rfl _ _ w.heap.size 88 _ (0, 0) _ rfl (setRow_heap _ _ _ _ _ _ r3.r) Tryd.underlying88 rfl (wkd_size _ _ _ _)
theorem rwalk_any (root at_ : Int) {w : World} {p q : Nat} {B : Nat → Int} (hm : RefAt w p q B) :
    Calls Tryd.prog 39 #[.pointer (some ⟨p, 0, none⟩), .int .i64 root, .int .u64 at_] w fun e w' => ∃ v, e = .returned (.agg #[.int .u64 (wkS B root at_).e, .int .i64 (wkS B root at_).f, .int .i64 (wkS B root at_).c, v]) ∧ OwnT w.heap.size 2 w' v ∧ Kept w w' := by
  unfold wkS
  by_cases h : 65536 ≤ at_
  · rw [if_pos h]
    exact rwalk_a root at_ hm h
  · rw [if_neg h]
    cases ho : entO root (topI at_)
    · rw [if_pos rfl]
      exact rwalk_b root at_ hm h ho
    · rw [if_neg (by simp)]
      cases hi : isE (entE B root (topI at_))
      · rw [if_pos rfl]
        exact rwalk_c root at_ hm h ho hi
      · rw [if_neg (by simp)]
        cases hf : leafE (entE B root (topI at_))
        · rw [if_neg (by simp)]
          cases h2 : entO (frI (entE B root (topI at_))) (lowI at_)
          · rw [if_pos rfl]
            exact rwalk_f root at_ hm h ho hi hf h2
          · rw [if_neg (by simp)]
            cases h3 : leafE (entE B (frI (entE B root (topI at_))) (lowI at_))
            · rw [if_neg (by simp)]
              exact rwalk_g root at_ hm h ho hi hf h2 h3
            · rw [if_pos rfl]
              exact rwalk_h root at_ hm h ho hi hf h2 h3
        · rw [if_pos rfl]
          by_cases hz : frI (entE B root (topI at_)) % 16 = 0
          · rw [if_pos hz]
            exact rwalk_e root at_ hm h ho hi hf hz
          · rw [if_neg hz]
            exact rwalk_d root at_ hm h ho hi hf hz
end Go.Proofs.YtpplclenokfpeaaDoor
