/-
  A row of steps that comes in, two memories beside each other (the program's and the document's), a copy: what each call leaves of them.
-/
import Derived.Test.YtgeefklpljolaaaMBack
import Derived.Test.YtgeefklpljolaaaRefRead
import Derived.Test.YtgeefklpljolaaaRefWrite
import Derived.Test.YtgeefklpljolaaaRefLay
namespace Go.Proofs.Ytgeefklpljolaaa
open Go.RowKit
/-- A step of the row. -/
structure Stp where
  what : Int
  n : Int
  pl : Int
  v : Int
  b : ByteArray
structure FiveAt (w : World) (b p : Nat) (x : Stp) : Prop where
  c0 : w.cell? ⟨b, p, none⟩ = some (.int .i64 x.what)
  c1 : w.cell? ⟨b, p + 1, none⟩ = some (.int .i64 x.n)
  c2 : w.cell? ⟨b, p + 2, none⟩ = some (.int .u64 x.pl)
  c3 : w.cell? ⟨b, p + 3, none⟩ = some (.int .u64 x.v)
  c4 : w.cell? ⟨b, p + 4, none⟩ = some (.string x.b)
theorem cell_lt {w : World} {b o : Nat} {v : Value} (h : w.cell? ⟨b, o, none⟩ = some v) : b < w.heap.size := by
  apply Classical.byContradiction
  intro hn
  rw [World.cell?] at h
  simp [Array.getElem?_eq_none (show w.heap.size ≤ b by omega)] at h
theorem Only.cell {S : Nat → Prop} {w w' : World} (g : Only S w w') {b o : Nat} {v : Value} (h : w.cell? ⟨b, o, none⟩ = some v) (hn : ¬ S b) : w'.cell? ⟨b, o, none⟩ = some v := by
  rw [World.cell?_of_block (w := w) (g.same b (cell_lt h) hn)]; exact h
theorem FiveAt.carry {S : Nat → Prop} {w w' : World} {b p : Nat} {x : Stp} (h : FiveAt w b p x) (g : Only S w w') (hn : ¬ S b) : FiveAt w' b p x :=
  ⟨g.cell h.c0 hn, g.cell h.c1 hn, g.cell h.c2 hn, g.cell h.c3 hn, g.cell h.c4 hn⟩
/-- The steps lie in the block, one behind the other. -/
def LiesS (w : World) (b o : Nat) (L : List Stp) : Prop := ∀ j x, L[j]? = some x → FiveAt w b (o + j * 5) x
theorem LiesS.kept {w w' : World} {b o : Nat} {L : List Stp} (h : LiesS w b o L) (g : Kept w w') : LiesS w' b o L := fun j x hx => (h j x hx).carry g id
/-- Two memories beside each other. -/
structure Two (W w : World) (pm qm pr qr : Nat) (B C : Nat → Int) : Prop where
  m : ProgAt w pm qm B
  r : RefAt w pr qr C
  k : Kept W w
  hm : W.heap.size ≤ qm
  hr : W.heap.size ≤ qr
  n1 : pm ≠ qr
  n2 : qm ≠ qr
  n3 : pr ≠ qm
theorem Two.kept {W w w' : World} {pm qm pr qr : Nat} {B C : Nat → Int} (h : Two W w pm qm pr qr B C) (g : Kept w w') : Two W w' pm qm pr qr B C := ⟨h.m.kept g, h.r.kept g, h.k.then g, h.hm, h.hr, h.n1, h.n2, h.n3⟩
/-- .. with a copy and a step's own block. -/
structure Three (W w : World) (pm qm pr qr pc qc b : Nat) (x : Stp) (B C D : Nat → Int) : Prop where
  t : Two W w pm qm pr qr B C
  c : ProgAt w pc qc D
  s : FiveAt w b 0 x
  hc : W.heap.size ≤ qc
  a1 : pm ≠ qc
  a2 : qm ≠ qc
  a3 : pr ≠ qc
  a4 : qr ≠ qc
  a5 : pc ≠ qm
  a6 : pc ≠ qr
  b1 : b ≠ qm
  b2 : b ≠ qr
  b3 : b ≠ qc
theorem Three.kept {W w w' : World} {pm qm pr qr pc qc b : Nat} {x : Stp} {B C D : Nat → Int} (h : Three W w pm qm pr qr pc qc b x B C D) (g : Kept w w') : Three W w' pm qm pr qr pc qc b x B C D :=
  ⟨h.t.kept g, h.c.kept g, h.s.carry g id, h.hc, h.a1, h.a2, h.a3, h.a4, h.a5, h.a6, h.b1, h.b2, h.b3⟩
theorem Three.prog {W w w' : World} {pm qm pr qr pc qc b : Nat} {x : Stp} {B C D B' : Nat → Int} (h : Three W w pm qm pr qr pc qc b x B C D) (hm : ProgAt w' pm qm B') (g : Only (fun i => i = qm) w w') : Three W w' pm qm pr qr pc qc b x B' C D :=
  ⟨⟨hm, h.t.r.carry g h.t.n3 (Ne.symm h.t.n2), h.t.k.new g (fun i hi => by rw [hi]; exact h.t.hm), h.t.hm, h.t.hr, h.t.n1, h.t.n2, h.t.n3⟩, h.c.carry g h.a5 (Ne.symm h.a2), h.s.carry g h.b1, h.hc, h.a1, h.a2, h.a3, h.a4, h.a5, h.a6, h.b1, h.b2, h.b3⟩
theorem Three.ref {W w w' : World} {pm qm pr qr pc qc b : Nat} {x : Stp} {B C D C' : Nat → Int} (h : Three W w pm qm pr qr pc qc b x B C D) (hr : RefAt w' pr qr C') (g : Only (fun i => i = qr) w w') : Three W w' pm qm pr qr pc qc b x B C' D :=
  ⟨⟨h.t.m.carry g h.t.n1 h.t.n2, hr, h.t.k.new g (fun i hi => by rw [hi]; exact h.t.hr), h.t.hm, h.t.hr, h.t.n1, h.t.n2, h.t.n3⟩, h.c.carry g h.a6 (Ne.symm h.a4), h.s.carry g h.b2, h.hc, h.a1, h.a2, h.a3, h.a4, h.a5, h.a6, h.b1, h.b2, h.b3⟩
theorem Three.copy {W w w' : World} {pm qm pr qr pc qc b : Nat} {x : Stp} {B C D D' : Nat → Int} (h : Three W w pm qm pr qr pc qc b x B C D) (hc : ProgAt w' pc qc D') (g : Only (fun i => i = qc) w w') : Three W w' pm qm pr qr pc qc b x B C D' :=
  ⟨⟨h.t.m.carry g h.a1 h.a2, h.t.r.carry g h.a3 h.a4, h.t.k.new g (fun i hi => by rw [hi]; exact h.hc), h.t.hm, h.t.hr, h.t.n1, h.t.n2, h.t.n3⟩, hc, h.s.carry g h.b3, h.hc, h.a1, h.a2, h.a3, h.a4, h.a5, h.a6, h.b1, h.b2, h.b3⟩
section
variable {W w : World} {pm qm pr qr pc qc b : Nat} {x : Stp} {B C D : Nat → Int}
theorem copy3 (h : Two W w pm qm pr qr B C) (hs : FiveAt w b 0 x) (hb1 : b ≠ qm) (hb2 : b ≠ qr) :
    Calls Try.prog 10 #[.pointer (some ⟨pm, 0, none⟩)] w fun e w' => ∃ pc qc, e = .returned (.pointer (some ⟨pc, 0, none⟩)) ∧ Three W w' pm qm pr qr pc qc b x B C B :=
  (mcopy_any w pm qm B h.m).mono fun _ _ ⟨pc, qc, he, hc, h1, h2, hk⟩ => by
    have l1 := h.m.lt
    have l2 := h.r.lt
    have l3 := cell_lt hs.c0
    exact ⟨pc, qc, he, h.kept hk, hc, hs.carry hk id, Nat.le_trans h.k.size h2, by omega, by omega, by omega, by omega, by omega, by omega, hb1, hb2, by omega⟩
theorem code3 (h : Three W w pm qm pr qr pc qc b x B C D) (a n : Int) (ha : U a) :
    Calls Try.prog 11 #[.pointer (some ⟨pr, 0, none⟩), .int .u64 a, .int .i64 n] w fun e w' => e = .returned (.int .i64 (codeI a n)) ∧ Three W w' pm qm pr qr pc qc b x B C D :=
  (rcode_any a n ha w pr qr C h.t.r).mono fun _ _ hx => ⟨hx.1, h.kept hx.2⟩
theorem mwrite3 (h : Three W w pm qm pr qr pc qc b x B C D) (a n v : Int) (ha : U a) :
    Calls Try.prog 12 #[.pointer (some ⟨pm, 0, none⟩), .int .u64 a, .int .i64 n, .int .u64 v] w fun e w' => e = .returned (.int .i64 (codeI a n)) ∧ Three W w' pm qm pr qr pc qc b x (wrZ B a n v) C D :=
  (mwrite_any a n v ha w pm qm B h.t.m).mono fun _ _ hx => ⟨hx.1, h.prog hx.2.1 hx.2.2⟩
theorem cwrite3 (h : Three W w pm qm pr qr pc qc b x B C D) (a n v : Int) (ha : U a) :
    Calls Try.prog 12 #[.pointer (some ⟨pc, 0, none⟩), .int .u64 a, .int .i64 n, .int .u64 v] w fun e w' => e = .returned (.int .i64 (codeI a n)) ∧ Three W w' pm qm pr qr pc qc b x B C (wrZ D a n v) :=
  (mwrite_any a n v ha w pc qc D h.c).mono fun _ _ hx => ⟨hx.1, h.copy hx.2.1 hx.2.2⟩
theorem rwrite3 (h : Three W w pm qm pr qr pc qc b x B C D) (a n v : Int) (ha : U a) (hv : U v) (hc : codeI a n = 0) :
    Calls Try.prog 13 #[.pointer (some ⟨pr, 0, none⟩), .int .u64 a, .int .i64 n, .int .u64 v] w fun e w' => e = .returned (.tuple #[]) ∧ Three W w' pm qm pr qr pc qc b x B (wrZ C a n v) D := by
  obtain ⟨A, N, rfl, rfl, h1, h2⟩ := code_fits ha.1 hc
  rw [wrZ_yes hc]
  exact (rwrite_any A N v hv (by omega) h2 w pr qr C h.t.r).mono fun _ _ hx => ⟨hx.1, h.ref hx.2.1 hx.2.2⟩
theorem mread3 (h : Three W w pm qm pr qr pc qc b x B C D) (a n : Int) (ha : U a) :
    Calls Try.prog 14 #[.pointer (some ⟨pm, 0, none⟩), .int .u64 a, .int .i64 n] w fun e w' => e = .returned (.tuple #[.int .u64 (rdZ B a n), .int .i64 (codeI a n)]) ∧ Three W w' pm qm pr qr pc qc b x B C D :=
  (mread_any a n ha w pm qm B h.t.m).mono fun _ _ hx => ⟨hx.1, h.kept hx.2⟩
theorem rread3 (h : Three W w pm qm pr qr pc qc b x B C D) (a n : Int) (ha : U a) (hc : codeI a n = 0) :
    Calls Try.prog 15 #[.pointer (some ⟨pr, 0, none⟩), .int .u64 a, .int .i64 n] w fun e w' => e = .returned (.int .u64 (rdZ C a n)) ∧ Three W w' pm qm pr qr pc qc b x B C D := by
  obtain ⟨A, N, rfl, rfl, h1, h2⟩ := code_fits ha.1 hc
  rw [rdZ_yes hc]
  exact (rread_any A N (by omega) h2 w pr qr C h.t.r).mono fun _ _ hx => ⟨hx.1, h.kept hx.2⟩
theorem mlay3 (h : Three W w pm qm pr qr pc qc b x B C D) (a : Int) (ha : U a) (s : ByteArray) (hs : s.size < 9223372036854775808) :
    Calls Try.prog 16 #[.pointer (some ⟨pm, 0, none⟩), .int .u64 a, .string s] w fun e w' => e = .returned (.int .i64 (layC a s.size)) ∧ Three W w' pm qm pr qr pc qc b x (layZ B a s) C D :=
  (mlay_any a ha s hs w pm qm B h.t.m).mono fun _ _ hx => ⟨hx.1, h.prog hx.2.1 hx.2.2⟩
theorem rlay3 (h : Three W w pm qm pr qr pc qc b x B C D) (a : Int) (ha : U a) (s : ByteArray) (hs : s.size < 9223372036854775808) :
    Calls Try.prog 17 #[.pointer (some ⟨pr, 0, none⟩), .int .u64 a, .string s] w fun e w' => e = .returned (.bool (fitsB a s.size)) ∧ Three W w' pm qm pr qr pc qc b x B (layZ C a s) D := by
  unfold layZ
  by_cases hf : a ≤ 32768 ∧ (s.size : Int) ≤ 32768 - a
  · have hfb : fitsB a s.size = true := decide_eq_true hf
    obtain ⟨A, rfl⟩ := Int.eq_ofNat_of_zero_le ha.1
    rw [if_pos hfb, hfb]
    exact (rlay_yes A s (by omega) w pr qr C h.t.r).mono fun _ _ hx => ⟨hx.1, h.ref hx.2.1 hx.2.2⟩
  · have hfb : fitsB a s.size = false := decide_eq_false hf
    rw [hfb, if_neg (by simp)]
    exact (rlay_no a ha s hs hf w pr qr C h.t.r).mono fun _ _ hx => ⟨hx.1, h.kept hx.2⟩
theorem mframe3 (h : Three W w pm qm pr qr pc qc b x B C D) (f : Int) :
    Calls Try.prog 18 #[.pointer (some ⟨pm, 0, none⟩), .int .i64 f] w fun e w' => e = .returned (.string (frameF B f)) ∧ Three W w' pm qm pr qr pc qc b x B C D :=
  (mframe_any f w pm qm B h.t.m).mono fun _ _ hx => ⟨hx.1, h.kept hx.2⟩
theorem rframe3 (h : Three W w pm qm pr qr pc qc b x B C D) (f : Int) :
    Calls Try.prog 19 #[.pointer (some ⟨pr, 0, none⟩), .int .i64 f] w fun e w' => e = .returned (.string (frameF C f)) ∧ Three W w' pm qm pr qr pc qc b x B C D :=
  (rframe_any f w pr qr C h.t.r).mono fun _ _ hx => ⟨hx.1, h.kept hx.2⟩
end
end Go.Proofs.Ytgeefklpljolaaa
