/-
  The rooms that a translation works in (the answer's, its own, the asking's), and what stores, calls and appends leave of them. Nothing of the program is walked here.
-/
import Derived.Test.YtpplclenokfpeaaDoorRefFirst
import Derived.Test.YtpplclenokfpeaaDoorRefAsk
import Derived.Deep.MidRow
namespace Go.Proofs.YtpplclenokfpeaaDoor
open Go.RowKit
theorem fnd_size (at_ : Int) (e : EntM) (f : FltM) (ok : Bool) (t : Value) : (Tryd.prog.info? 43).map (·.size) = some (fndA at_ e f ok t).size := by
  rw [show (fndA at_ e f ok t).size = 16 from rfl]
  kernel_rfl
theorem ent_size (e : EntM) : (Tryd.prog.info? 36).map (·.size) = some (entA e).toArray.size := by
  rw [show (entA e).toArray.size = 9 from rfl]
  kernel_rfl
theorem flt_size (f : FltM) : (Tryd.prog.info? 38).map (·.size) = some (fltA f).toArray.size := by
  rw [show (fltA f).toArray.size = 4 from rfl]
  kernel_rfl
theorem ent_ones (e : EntM) : (entA e).toArray.all (·.oneCell') = true := by simp [entA, Value.oneCell']
theorem flt_ones (f : FltM) : (fltA f).toArray.all (·.oneCell') = true := by simp [fltA, Value.oneCell']
def putL (cs : Array Value) : Nat → List Value → Array Value
  | _, [] => cs
  | o, v :: r => putL (cs.setIfInBounds o v) (o + 1) r
theorem only_setCells (b : Nat) : ∀ (vs : List Value) (o : Nat) (w : World), Only (fun i => i = b) w (w.setCells b o vs)
  | [], _, w => Only.refl _ w
  | v :: r, o, w => by
    have h := Only.setCell (Only.refl (fun i => i = b) w) (x := ⟨b, o, none⟩) rfl v
    exact h.trans (only_setCells b r (o + 1) _)
theorem blk_setCells {b : Nat} {T : TypeId} : ∀ (vs : List Value) (o : Nat) (w : World) (cs : Array Value), w.heap[b]? = some (.cells cs T (0, 0)) → (w.setCells b o vs).heap[b]? = some (.cells (putL cs o vs) T (0, 0))
  | [], _, w, cs, h => h
  | v :: r, o, w, cs, h => by
    refine blk_setCells r (o + 1) (w.setCell ⟨b, o, none⟩ v) (cs.setIfInBounds o v) ?_
    show (w.heap.modify b _)[b]? = _
    rw [Array.getElem?_modify, if_pos rfl, h]
    rfl
theorem there_of {w : World} {b : Nat} {T : TypeId} {cs : Array Value} (h : w.heap[b]? = some (.cells cs T (0, 0))) (o n : Nat) (hn : o + n ≤ cs.size) : w.there b o n := fun j hj => by
  refine ⟨?_, by simp [World.frozen?, h]⟩
  simp [World.cell?, h]
  omega
theorem put_ent (at_ : Int) (e e2 : EntM) (f : FltM) (ok : Bool) (t : Value) : putL (fndA at_ e f ok t) 1 (entA e2).toArray.toList = fndA at_ e2 f ok t := by
  simp [putL, fndA, entA]
theorem put_flt (at_ : Int) (e : EntM) (f f2 : FltM) (ok : Bool) (t : Value) : putL (fndA at_ e f ok t) 10 (fltA f2).toArray.toList = fndA at_ e f2 ok t := by
  simp [putL, fndA, fltA]
/-- The rooms of a translation: rb the answer's, fb its own, ab the asking's. -/
structure TR (w0 w : World) (rb fb ab c : Nat) (a : AskM) (at_ : Int) (e : EntM) (f : FltM) (ok : Bool) (t : Value) (n : Nat) : Prop where
  k : Kept w0 w
  r : w.heap[rb]? = some (.cells (fndA 0 entNone fltNone false (.slice none 0 0)) 43 (0, 0))
  l : w.heap[fb]? = some (.cells (fndA at_ e f ok t) 43 (0, 0))
  b : w.heap[ab]? = some (.cells (askA a) 46 (0, 0))
  o : OwnT c n w t
  z0 : w0.heap.size ≤ rb
  z1 : rb < fb
  z2 : fb < ab
  z3 : ab < c
  z4 : c ≤ w.heap.size
section
variable {w0 w w' : World} {rb fb ab c : Nat} {a : AskM} {at_ : Int} {e : EntM} {f : FltM} {ok : Bool} {t : Value} {n : Nat}
theorem TR.kept (h : TR w0 w rb fb ab c a at_ e f ok t n) (g : Kept w w') : TR w0 w' rb fb ab c a at_ e f ok t n :=
  ⟨h.k.then g, g.block h.r id, g.block h.l id, g.block h.b id, h.o.kept g, h.z0, h.z1, h.z2, h.z3, Nat.le_trans h.z4 g.size⟩
/-- Something of the call's own room written. -/
theorem TR.put_of (h : TR w0 w rb fb ab c a at_ e f ok t n) (g : Only (fun i => i = fb) w w') {at2 : Int} {e2 : EntM} {f2 : FltM} {ok2 : Bool} (hl : w'.heap[fb]? = some (.cells (fndA at2 e2 f2 ok2 t) 43 (0, 0))) : TR w0 w' rb fb ab c a at2 e2 f2 ok2 t n := by
  have z0 := h.z0; have z1 := h.z1; have z2 := h.z2; have z3 := h.z3
  exact ⟨h.k.new g fun i hi => by omega, g.block h.r (by omega), hl, g.block h.b (by omega), h.o.past g fun i hi => by omega, h.z0, h.z1, h.z2, h.z3, Nat.le_trans h.z4 g.size⟩
theorem TR.put (h : TR w0 w rb fb ab c a at_ e f ok t n) (i : Nat) (v : Value) {at2 : Int} {e2 : EntM} {f2 : FltM} {ok2 : Bool} (hc : (fndA at_ e f ok t).setIfInBounds i v = fndA at2 e2 f2 ok2 t) : TR w0 (w.setCell ⟨fb, i, none⟩ v) rb fb ab c a at2 e2 f2 ok2 t n := by
  have ho := Only.setCell (Only.refl (fun j => j = fb) w) (x := ⟨fb, i, none⟩) rfl v
  exact h.put_of ho (by rw [← hc]; exact fb_set h.l i v)
theorem TR.puts (h : TR w0 w rb fb ab c a at_ e f ok t n) (i : Nat) (vs : List Value) {at2 : Int} {e2 : EntM} {f2 : FltM} {ok2 : Bool} (hc : putL (fndA at_ e f ok t) i vs = fndA at2 e2 f2 ok2 t) : TR w0 (w.setCells fb i vs) rb fb ab c a at2 e2 f2 ok2 t n :=
  h.put_of (only_setCells fb vs i w) (by rw [← hc]; exact blk_setCells vs i w _ h.l)
/-- An entry, a fault stored whole. -/
theorem TR.ent (h : TR w0 w rb fb ab c a at_ e f ok t n) (e2 : EntM) : TR w0 (w.setCells fb 1 (entA e2).toArray.toList) rb fb ab c a at_ e2 f ok t n :=
  h.puts 1 (entA e2).toArray.toList (put_ent at_ e e2 f ok t)
theorem TR.flt (h : TR w0 w rb fb ab c a at_ e f ok t n) (f2 : FltM) : TR w0 (w.setCells fb 10 (fltA f2).toArray.toList) rb fb ab c a at_ e f2 ok t n :=
  h.puts 10 (fltA f2).toArray.toList (put_flt at_ e f f2 ok t)
/-- Behind a call that writes the room and makes a new slice. -/
theorem TR.first (h : TR w0 w rb fb ab c a at_ e f ok t n) (g : Only (fun i => i = fb) w w') {at2 : Int} {e2 : EntM} {f2 : FltM} {ok2 : Bool} {t2 : Value} {m : Nat} (hl : w'.heap[fb]? = some (.cells (fndA at2 e2 f2 ok2 t2) 43 (0, 0))) (ho : OwnT w.heap.size m w' t2) : TR w0 w' rb fb ab c a at2 e2 f2 ok2 t2 m := by
  have z0 := h.z0; have z1 := h.z1; have z2 := h.z2; have z3 := h.z3
  exact ⟨h.k.new g fun i hi => by omega, g.block h.r (by omega), hl, g.block h.b (by omega), ho.lower h.z4, h.z0, h.z1, h.z2, h.z3, Nat.le_trans h.z4 g.size⟩
theorem TR.app (h : TR w0 w rb fb ab c a at_ e f ok t n) {o : Option Nat} (g : Only (fun i => c ≤ i ∧ o = some i) w w') : w'.heap[fb]? = some (.cells (fndA at_ e f ok t) 43 (0, 0)) := by
  have z2 := h.z2; have z3 := h.z3
  exact g.block h.l fun x => by omega
/-- The new slice stored. -/
theorem TR.lay (h : TR w0 w rb fb ab c a at_ e f ok t n) {o : Option Nat} (g : Only (fun i => c ≤ i ∧ o = some i) w w') {t2 : Value} {m : Nat} (ho2 : OwnT c m w' t2) : TR w0 (w'.setCell ⟨fb, 15, none⟩ t2) rb fb ab c a at_ e f ok t2 m := by
  have z0 := h.z0; have z1 := h.z1; have z2 := h.z2; have z3 := h.z3; have z4 := h.z4
  have ho := Only.setCell (Only.refl (fun j => j = fb) w') (x := ⟨fb, 15, none⟩) rfl t2
  have h1 : Kept w0 w' := h.k.new g fun i hi => by omega
  have hr := g.block h.r fun x => by omega
  have hb := g.block h.b fun x => by omega
  exact ⟨h1.new ho fun i hi => by omega, ho.block hr (by omega), fb_set (h.app g) 15 t2, ho.block hb (by omega), ho2.past ho fun i hi => by omega, h.z0, h.z1, h.z2, h.z3, Nat.le_trans z4 (Nat.le_trans g.size ho.size)⟩
theorem TR.cell (h : TR w0 w rb fb ab c a at_ e f ok t n) (i : Nat) : w.cell? ⟨fb, i, none⟩ = (fndA at_ e f ok t)[i]? := fb_cell h.l i
theorem TR.loose (h : TR w0 w rb fb ab c a at_ e f ok t n) (i : Nat) : w.frozen? ⟨fb, i, none⟩ = false := fb_loose h.l i
theorem TR.there (h : TR w0 w rb fb ab c a at_ e f ok t n) (o m : Nat) (hm : o + m ≤ 16) : w.there fb o m := there_of h.l o m hm
theorem TR.whole (h : TR w0 w rb fb ab c a at_ e f ok t n) : ∀ i v, (fndA at_ e f ok t).toList[i]? = some v → w.cell? ⟨fb, i, none⟩ = some v := fun i v hi => by
  rw [h.cell i, ← Array.getElem?_toList]
  exact hi
theorem TR.asks (h : TR w0 w rb fb ab c a at_ e f ok t n) : ∀ i v, (askA a).toList[i]? = some v → w.cell? ⟨ab, i, none⟩ = some v := fun i v hi => by
  rw [fb_cell' h.b i, ← Array.getElem?_toList]
  exact hi
theorem TR.c0 (h : TR w0 w rb fb ab c a at_ e f ok t n) : w.cell? ⟨fb, 0, none⟩ = some (.int .u64 at_) := h.cell 0
theorem TR.c3 (h : TR w0 w rb fb ab c a at_ e f ok t n) : w.cell? ⟨fb, 3, none⟩ = some (.int .i64 e.page) := h.cell 3
theorem TR.c6 (h : TR w0 w rb fb ab c a at_ e f ok t n) : w.cell? ⟨fb, 6, none⟩ = some (.int .i64 e.frame) := h.cell 6
theorem TR.c7 (h : TR w0 w rb fb ab c a at_ e f ok t n) : w.cell? ⟨fb, 7, none⟩ = some (.int .i64 e.bits) := h.cell 7
theorem TR.c8 (h : TR w0 w rb fb ab c a at_ e f ok t n) : w.cell? ⟨fb, 8, none⟩ = some (.int .i64 e.host) := h.cell 8
theorem TR.c9 (h : TR w0 w rb fb ab c a at_ e f ok t n) : w.cell? ⟨fb, 9, none⟩ = some (.int .i64 e.guest) := h.cell 9
theorem TR.c10 (h : TR w0 w rb fb ab c a at_ e f ok t n) : w.cell? ⟨fb, 10, none⟩ = some (.int .u64 f.cause) := h.cell 10
theorem TR.c12 (h : TR w0 w rb fb ab c a at_ e f ok t n) : w.cell? ⟨fb, 12, none⟩ = some (.int .u64 f.place) := h.cell 12
theorem TR.c14 (h : TR w0 w rb fb ab c a at_ e f ok t n) : w.cell? ⟨fb, 14, none⟩ = some (.bool ok) := h.cell 14
theorem TR.c15 (h : TR w0 w rb fb ab c a at_ e f ok t n) : w.cell? ⟨fb, 15, none⟩ = some t := h.cell 15
/-- The walk goes on over a world of which the rooms alone are known. -/
theorem TR.go {x : Code} {Q : Exit → Act → World → Prop} {u : Act} (h : TR w0 w rb fb ab c a at_ e f ok t n) (g : ∀ w', TR w0 w' rb fb ab c a at_ e f ok t n → Code.wp Tryd.prog x Q u w') : Code.wp Tryd.prog x Q u w := g w h
/-- The answer's room written, whole. -/
theorem TR.done (h : TR w0 w rb fb ab c a at_ e f ok t n) : Kept w0 (w.setRow rb (fndA at_ e f ok t)) ∧ (w.setRow rb (fndA at_ e f ok t)).heap[rb]? = some (.cells (fndA at_ e f ok t) 43 (0, 0)) ∧ OwnT w0.heap.size n (w.setRow rb (fndA at_ e f ok t)) t := by
  have z0 := h.z0; have z1 := h.z1; have z2 := h.z2; have z3 := h.z3
  have ho := Only.setRow (Only.refl (fun j => j = rb) w) (g := rb) rfl (fndA at_ e f ok t)
  exact ⟨h.k.new ho fun i hi => by omega, setRow_heap _ _ _ _ _ _ h.r, (h.o.past ho fun i hi => by omega).lower (by omega)⟩
end
theorem fnd_ones (at_ : Int) (e : EntM) (f : FltM) (ok : Bool) {t : Value} (h : t.oneCell' = true) : (fndA at_ e f ok t).all (·.oneCell') = true := by
  unfold fndA
  simp [Value.oneCell']
  exact h
theorem ask_bd (S : StM) (level : Int) (v : Bool) : (0 ≤ (askS S level v).root ∧ (askS S level v).root < 256) ∧ (0 ≤ (askS S level v).host ∧ (askS S level v).host < 256) ∧ (0 ≤ (askS S level v).asid ∧ (askS S level v).asid < 256) ∧ (0 ≤ (askS S level v).vmid ∧ (askS S level v).vmid < 256) := by
  unfold askS
  split
  · simp
  · unfold askV
    simp only
    refine ⟨?_, ?_, ?_, ?_⟩
    · cases ((bif v then S.C 28 else S.C 15) / 2 ^ 63 == 1) <;> simp only [cond_true, cond_false] <;> omega
    · cases (v && (S.C 21 / 2 ^ 63 == 1)) <;> simp only [cond_true, cond_false] <;> omega
    · cases ((bif v then S.C 28 else S.C 15) / 2 ^ 63 == 1) <;> simp only [cond_true, cond_false] <;> omega
    · cases (v && (S.C 21 / 2 ^ 63 == 1)) <;> simp only [cond_true, cond_false] <;> omega
theorem fst_bd (B : Nat → Int) (a : AskM) (at_ k : Int) : (0 ≤ (fstS B a at_ k).frame ∧ (fstS B a at_ k).frame < 256) ∧ ((fstS B a at_ k).ok = true → (fstS B a at_ k).cause = 0 ∧ (fstS B a at_ k).place = 0) := by
  obtain ⟨l0, l1⟩ := low_bd at_
  unfold fstS
  split
  · simp
  · split
    · simp
    · split
      · rename_i h1 h2 h3
        have hf := fr_bd (stpS B a a.root (topI at_) k).e
        have hw : frI (stpS B a a.root (topI at_) k).e % 16 = 0 := Classical.byContradiction fun x => h2 (.inr ⟨h3, x⟩)
        simp only
        refine ⟨⟨by omega, by omega⟩, fun _ => ⟨trivial, trivial⟩⟩
      · split
        · simp
        · split
          · simp
          · exact ⟨fr_bd _, fun _ => ⟨rfl, rfl⟩⟩
end Go.Proofs.YtpplclenokfpeaaDoor
