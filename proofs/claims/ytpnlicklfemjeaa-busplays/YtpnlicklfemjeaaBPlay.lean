/-
  A row of steps that comes in, two buses beside each other (the program's and the document's), a copy: what each call leaves of them.
-/
import Derived.Test.YtpnlicklfemjeaaBKnown
import Derived.Test.YtpnlicklfemjeaaRefBus4
import Derived.Test.YtpnlicklfemjeaaRefFrame
namespace Go.Proofs.Ytpnlicklfemjeaa
open Go.RowKit
/-- A step of the row. -/
structure Stp where
  what : Int
  n : Int
  pl : Int
  v : Int
  b : ByteArray
structure FiveAt (w : World) (b p : Nat) (x : Stp) : Prop where
  c0 : w.cell? ⟨b, p, none⟩ = some (.int .i64 x.what)
  c1 : w.cell? ⟨b, p + 1, none⟩ = some (.int .i64 x.n)
  c2 : w.cell? ⟨b, p + 2, none⟩ = some (.int .u64 x.pl)
  c3 : w.cell? ⟨b, p + 3, none⟩ = some (.int .u64 x.v)
  c4 : w.cell? ⟨b, p + 4, none⟩ = some (.string x.b)
theorem cell_lt {w : World} {b o : Nat} {v : Value} (h : w.cell? ⟨b, o, none⟩ = some v) : b < w.heap.size := by
  apply Classical.byContradiction
  intro hn
  rw [World.cell?] at h
  simp [Array.getElem?_eq_none (show w.heap.size ≤ b by omega)] at h
theorem Only.cell {S : Nat → Prop} {w w' : World} (g : Only S w w') {b o : Nat} {v : Value} (h : w.cell? ⟨b, o, none⟩ = some v) (hn : ¬ S b) : w'.cell? ⟨b, o, none⟩ = some v := by
  rw [World.cell?_of_block (w := w) (g.same b (cell_lt h) hn)]; exact h
theorem FiveAt.carry {S : Nat → Prop} {w w' : World} {b p : Nat} {x : Stp} (h : FiveAt w b p x) (g : Only S w w') (hn : ¬ S b) : FiveAt w' b p x :=
  ⟨g.cell h.c0 hn, g.cell h.c1 hn, g.cell h.c2 hn, g.cell h.c3 hn, g.cell h.c4 hn⟩
/-- The steps lie in the block, one behind the other. -/
def LiesS (w : World) (b o : Nat) (L : List Stp) : Prop := ∀ j x, L[j]? = some x → FiveAt w b (o + j * 5) x
theorem LiesS.kept {w w' : World} {b o : Nat} {L : List Stp} (h : LiesS w b o L) (g : Kept w w') : LiesS w' b o L := fun j x hx => (h j x hx).carry g id
theorem five_new (w : World) (x : Stp) (t : TypeId) : FiveAt (w.alloc (.cells #[.int .i64 x.what, .int .i64 x.n, .int .u64 x.pl, .int .u64 x.v, .string x.b] t)) w.heap.size 0 x := by
  constructor <;> simp
/-- The document's bus, all of whose blocks lie from lo on and below hi. -/
structure RB (lo hi : Nat) (w : World) (r : Nat) (M : BusM) : Prop where
  ex : ∃ p q, RefBus w r p q M ∧ Rng lo hi p ∧ Rng lo hi q
  b : Rng lo hi r
section
variable {lo hi : Nat} {w w' : World} {r : Nat} {M : BusM}
theorem RB.carry {S : Nat → Prop} (h : RB lo hi w r M) (g : Only S w w') (hs : ∀ i, Rng lo hi i → ¬ S i) : RB lo hi w' r M := by
  obtain ⟨⟨p, q, hb, hp, hq⟩, hr⟩ := h
  exact ⟨⟨p, q, hb.carry g (hs _ hr) (hs _ hp) (hs _ hq), hp, hq⟩, hr⟩
theorem RB.kept (h : RB lo hi w r M) (g : Kept w w') : RB lo hi w' r M := h.carry g fun _ _ => id
theorem RB.apart {lo' hi' : Nat} (h : RB lo hi w r M) (g : Only (Rng lo' hi') w w') (hd : hi ≤ lo' ∨ hi' ≤ lo) : RB lo hi w' r M :=
  h.carry g fun i h1 h2 => by unfold Rng at h1 h2; omega
theorem rread_in (h : RB lo hi w r M) (a n : Int) (ha : U a) :
    Calls Try.prog 14 #[.pointer (some ⟨r, 0, none⟩), .int .u64 a, .int .i64 n] w fun e w' => e = .returned (.tuple #[.int .u64 (rdV M a n), .bool (rdB a n)]) ∧ RB lo hi w' r (rdN M a n) ∧ Only (Rng lo hi) w w' := by
  obtain ⟨⟨p, q, hb, hp, hq⟩, hr⟩ := h
  exact (rbread_any a n ha hb).mono fun _ _ ⟨h1, h2, h3⟩ => ⟨h1, ⟨⟨p, q, h2, hp, hq⟩, hr⟩, h3.mono fun i hi => hi.elim (fun e => e ▸ hr) (fun e => e ▸ hq)⟩
theorem rwrite_in (h : RB lo hi w r M) (a n v : Int) (ha : U a) (hv : U v) :
    Calls Try.prog 16 #[.pointer (some ⟨r, 0, none⟩), .int .u64 a, .int .i64 n, .int .u64 v] w fun e w' => e = .returned (.bool (wrB a n)) ∧ RB lo hi w' r (wrN M a n v) ∧ Only (Rng lo hi) w w' := by
  obtain ⟨⟨p, q, hb, hp, hq⟩, hr⟩ := h
  exact (rbwrite_any a n v ha hv hb).mono fun _ _ ⟨h1, h2, h3⟩ => ⟨h1, ⟨⟨p, q, h2, hp, hq⟩, hr⟩, h3.mono fun i hi => hi.elim (fun e => e ▸ hr) (fun e => e ▸ hq)⟩
theorem rtype_in' (h : RB lo hi w r M) (i : Int) (s : ByteArray) (hs : s.size ≤ 100) :
    Calls Try.prog 18 #[.pointer (some ⟨r, 0, none⟩), .int .i64 i, .string s] w fun e w' => e = .returned (.tuple #[]) ∧ RB lo hi w' r (typN M i s.data.toList) ∧ Only (Rng lo hi) w w' := by
  obtain ⟨⟨p, q, hb, hp, hq⟩, hr⟩ := h
  exact (rtype_any i s hs hb).mono fun _ _ ⟨h1, h2, h3⟩ => ⟨h1, ⟨⟨p, q, h2, hp, hq⟩, hr⟩, h3.mono fun i hi => hi.elim (fun e => e ▸ hr) (fun e => e ▸ hq)⟩
theorem RB.set1 (h : RB lo hi w r M) (t : Int) (ht : U t) : RB lo hi (w.setCell ⟨r, 1, none⟩ (.int .u64 t)) r ⟨t, M.a, M.P, M.B⟩ ∧ Only (Rng lo hi) w (w.setCell ⟨r, 1, none⟩ (.int .u64 t)) := by
  obtain ⟨⟨p, q, hb, hp, hq⟩, hr⟩ := h
  obtain ⟨h2, h3⟩ := hb.set1 t ht
  exact ⟨⟨⟨p, q, h2, hp, hq⟩, hr⟩, h3.mono fun i hi => hi.elim (fun e => e ▸ hr) (fun e => e ▸ hq)⟩
end
/-- Two buses beside each other. -/
structure Duo (W w : World) (h1 h2 b r : Nat) (M : BusM) : Prop where
  p : PB W.heap.size h1 w b M
  r : RB h1 h2 w r M
  k : Kept W w
  l1 : W.heap.size ≤ h1
  l2 : h1 ≤ h2
  l3 : h2 ≤ w.heap.size
theorem Duo.kept {W w w' : World} {h1 h2 b r : Nat} {M : BusM} (h : Duo W w h1 h2 b r M) (g : Kept w w') : Duo W w' h1 h2 b r M :=
  ⟨h.p.kept g, h.r.kept g, h.k.then g, h.l1, h.l2, Nat.le_trans h.l3 g.size⟩
/-- .. with a copy and a step's own block; R is the document's bus's state. -/
structure Trio (W w : World) (h1 h2 b r sb lo hi c : Nat) (x : Stp) (M R N : BusM) : Prop where
  p : PB W.heap.size h1 w b M
  r : RB h1 h2 w r R
  c : PB lo hi w c N
  s : FiveAt w sb 0 x
  k : Kept W w
  l1 : W.heap.size ≤ h1
  l2 : h1 ≤ h2
  l3 : h2 ≤ sb
  l4 : sb < lo
section
variable {W w : World} {h1 h2 b r sb lo hi c : Nat} {x : Stp} {M R N : BusM}
theorem Trio.duo (h : Trio W w h1 h2 b r sb lo hi c x M M N) : Duo W w h1 h2 b r M := ⟨h.p, h.r, h.k, h.l1, h.l2, by have := cell_lt h.s.c0; have := h.l3; omega⟩
theorem Trio.kept {w' : World} (h : Trio W w h1 h2 b r sb lo hi c x M R N) (g : Kept w w') : Trio W w' h1 h2 b r sb lo hi c x M R N :=
  ⟨h.p.kept g, h.r.kept g, h.c.kept g, h.s.carry g id, h.k.then g, h.l1, h.l2, h.l3, h.l4⟩
theorem Trio.prog {w' : World} {M' : BusM} (h : Trio W w h1 h2 b r sb lo hi c x M R N) (hp : PB W.heap.size h1 w' b M') (g : Only (Rng W.heap.size h1) w w') : Trio W w' h1 h2 b r sb lo hi c x M' R N := by
  have := h.l2; have := h.l3; have := h.l4
  exact ⟨hp, h.r.apart g (.inr (Nat.le_refl _)), h.c.apart g (.inr (by omega)), h.s.carry g (fun e => by unfold Rng at e; omega), h.k.own (Nat.le_refl _) g, h.l1, h.l2, h.l3, h.l4⟩
theorem Trio.ref {w' : World} {R' : BusM} (h : Trio W w h1 h2 b r sb lo hi c x M R N) (hr : RB h1 h2 w' r R') (g : Only (Rng h1 h2) w w') : Trio W w' h1 h2 b r sb lo hi c x M R' N := by
  have := h.l2; have := h.l3; have := h.l4
  exact ⟨h.p.apart g (.inl (Nat.le_refl _)), hr, h.c.apart g (.inr (by omega)), h.s.carry g (fun e => by unfold Rng at e; omega), h.k.own h.l1 g, h.l1, h.l2, h.l3, h.l4⟩
theorem Trio.copy {w' : World} {N' : BusM} (h : Trio W w h1 h2 b r sb lo hi c x M R N) (hc : PB lo hi w' c N') (g : Only (Rng lo hi) w w') : Trio W w' h1 h2 b r sb lo hi c x M R N' := by
  have := h.l1; have := h.l2; have := h.l3; have := h.l4
  exact ⟨h.p.apart g (.inl (by omega)), h.r.apart g (.inl (by omega)), hc, h.s.carry g (fun e => by unfold Rng at e; omega), h.k.own (by omega) g, h.l1, h.l2, h.l3, h.l4⟩
theorem t_copy (h : Duo W w h1 h2 b r M) (hs : FiveAt w sb 0 x) (hl : h2 ≤ sb) :
    Calls Try.prog 12 #[.pointer (some ⟨b, 0, none⟩)] w fun e w' => ∃ lo hi c, e = .returned (.pointer (some ⟨c, 0, none⟩)) ∧ Trio W w' h1 h2 b r sb lo hi c x M M M :=
  (bcopy_in h.p).mono fun _ _ ⟨c, e1, e2, e3⟩ => ⟨_, _, c, e1, h.p.kept e3, h.r.kept e3, e2, hs.carry e3 id, h.k.then e3, h.l1, h.l2, hl, cell_lt hs.c0⟩
theorem t_read (h : Trio W w h1 h2 b r sb lo hi c x M R N) (a n : Int) (ha : U a) :
    Calls Try.prog 13 #[.pointer (some ⟨b, 0, none⟩), .int .u64 a, .int .i64 n] w fun e w' => e = .returned (.tuple #[.int .u64 (rdV M a n), .bool (rdB a n)]) ∧ Trio W w' h1 h2 b r sb lo hi c x (rdN M a n) R N :=
  (bread_in h.p a n ha).mono fun _ _ ⟨e1, e2, e3⟩ => ⟨e1, h.prog e2 e3⟩
theorem t_rread (h : Trio W w h1 h2 b r sb lo hi c x M R N) (a n : Int) (ha : U a) :
    Calls Try.prog 14 #[.pointer (some ⟨r, 0, none⟩), .int .u64 a, .int .i64 n] w fun e w' => e = .returned (.tuple #[.int .u64 (rdV R a n), .bool (rdB a n)]) ∧ Trio W w' h1 h2 b r sb lo hi c x M (rdN R a n) N :=
  (rread_in h.r a n ha).mono fun _ _ ⟨e1, e2, e3⟩ => ⟨e1, h.ref e2 e3⟩
theorem t_write (h : Trio W w h1 h2 b r sb lo hi c x M R N) (a n v : Int) (ha : U a) :
    Calls Try.prog 15 #[.pointer (some ⟨b, 0, none⟩), .int .u64 a, .int .i64 n, .int .u64 v] w fun e w' => e = .returned (.bool (wrB a n)) ∧ Trio W w' h1 h2 b r sb lo hi c x (wrN M a n v) R N :=
  (bwrite_in h.p a n v ha).mono fun _ _ ⟨e1, e2, e3⟩ => ⟨e1, h.prog e2 e3⟩
theorem t_rwrite (h : Trio W w h1 h2 b r sb lo hi c x M R N) (a n v : Int) (ha : U a) (hv : U v) :
    Calls Try.prog 16 #[.pointer (some ⟨r, 0, none⟩), .int .u64 a, .int .i64 n, .int .u64 v] w fun e w' => e = .returned (.bool (wrB a n)) ∧ Trio W w' h1 h2 b r sb lo hi c x M (wrN R a n v) N :=
  (rwrite_in h.r a n v ha hv).mono fun _ _ ⟨e1, e2, e3⟩ => ⟨e1, h.ref e2 e3⟩
theorem t_cwrite (h : Trio W w h1 h2 b r sb lo hi c x M R N) (a n v : Int) (ha : U a) :
    Calls Try.prog 15 #[.pointer (some ⟨c, 0, none⟩), .int .u64 a, .int .i64 n, .int .u64 v] w fun e w' => e = .returned (.bool (wrB a n)) ∧ Trio W w' h1 h2 b r sb lo hi c x M R (wrN N a n v) :=
  (bwrite_in h.c a n v ha).mono fun _ _ ⟨e1, e2, e3⟩ => ⟨e1, h.copy e2 e3⟩
theorem t_type (h : Trio W w h1 h2 b r sb lo hi c x M R N) (i : Int) (s : ByteArray) :
    Calls Try.prog 17 #[.pointer (some ⟨b, 0, none⟩), .int .i64 i, .string s] w fun e w' => e = .returned (.tuple #[]) ∧ Trio W w' h1 h2 b r sb lo hi c x (typN M i s.data.toList) R N :=
  (btype_in h.p i s).mono fun _ _ ⟨e1, e2, e3⟩ => ⟨e1, h.prog e2 e3⟩
theorem t_rtype (h : Trio W w h1 h2 b r sb lo hi c x M R N) (i : Int) (s : ByteArray) (hs : s.size ≤ 100) :
    Calls Try.prog 18 #[.pointer (some ⟨r, 0, none⟩), .int .i64 i, .string s] w fun e w' => e = .returned (.tuple #[]) ∧ Trio W w' h1 h2 b r sb lo hi c x M (typN R i s.data.toList) N :=
  (rtype_in' h.r i s hs).mono fun _ _ ⟨e1, e2, e3⟩ => ⟨e1, h.ref e2 e3⟩
theorem t_set (h : Trio W w h1 h2 b r sb lo hi c x M R N) (t : Int) :
    Calls Try.prog 19 #[.pointer (some ⟨b, 0, none⟩), .int .u64 t] w fun e w' => e = .returned (.tuple #[]) ∧ Trio W w' h1 h2 b r sb lo hi c x ⟨t, M.a, M.P, M.B⟩ R N :=
  (bset_in h.p t).mono fun _ _ ⟨e1, e2, e3⟩ => ⟨e1, h.prog e2 e3⟩
theorem t_out (h : Trio W w h1 h2 b r sb lo hi c x M R N) (i : Int) :
    Calls Try.prog 20 #[.pointer (some ⟨b, 0, none⟩), .int .i64 i] w fun e w' => e = .returned (.string (outS M i)) ∧ Trio W w' h1 h2 b r sb lo hi c x M R N :=
  (bout_in h.p i).mono fun _ _ ⟨e1, e2⟩ => ⟨e1, h.kept e2⟩
theorem t_timer (h : Trio W w h1 h2 b r sb lo hi c x M R N) :
    Calls Try.prog 21 #[.pointer (some ⟨b, 0, none⟩)] w fun e w' => e = .returned (.bool (timB M)) ∧ Trio W w' h1 h2 b r sb lo hi c x M R N :=
  (btimer_in h.p).mono fun _ _ ⟨e1, e2⟩ => ⟨e1, h.kept e2⟩
theorem t_rtimer (h : Trio W w h1 h2 b r sb lo hi c x M R N) :
    Calls Try.prog 22 #[.pointer (some ⟨r, 0, none⟩)] w fun e w' => e = .returned (.bool (timB R)) ∧ Trio W w' h1 h2 b r sb lo hi c x M R N := by
  obtain ⟨p, q, hb, _, _⟩ := h.r.ex
  exact (rtimer_any hb).mono fun _ _ ⟨e1, e2⟩ => ⟨e1, h.kept e2⟩
theorem t_dev (h : Trio W w h1 h2 b r sb lo hi c x M R N) (a : Int) :
    Calls Try.prog 23 #[.pointer (some ⟨b, 0, none⟩), .int .u64 a] w fun e w' => e = .returned (.bool (devB a)) ∧ Trio W w' h1 h2 b r sb lo hi c x M R N :=
  (dev_any a _ w).mono fun _ _ ⟨e1, e2⟩ => ⟨e1, e2 ▸ h⟩
theorem t_rdev (h : Trio W w h1 h2 b r sb lo hi c x M R N) (a : Int) :
    Calls Try.prog 24 #[.pointer (some ⟨r, 0, none⟩), .int .u64 a] w fun e w' => e = .returned (.bool (devB a)) ∧ Trio W w' h1 h2 b r sb lo hi c x M R N := by
  obtain ⟨p, q, hb, _, _⟩ := h.r.ex
  exact (rdev_any a hb).mono fun _ _ ⟨e1, e2⟩ => ⟨e1, e2 ▸ h⟩
end
end Go.Proofs.Ytpnlicklfemjeaa
