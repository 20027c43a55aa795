/-
  What statement WalkTells asks: two memories beside each other (the program's and the document's), a row of steps that comes in; walked for every argument.
-/
import Derived.Test.YtagfhfmaonoehaaWkFace
import Derived.Test.YtagfhfmaonoehaaRefWalk
namespace Go.Proofs.Ytagfhfmaonoehaa
open Go.RowKit
/-- A step of the row. -/
structure Stw where
  lay : Bool
  root : Int
  low : Int
  page : Int
  e : Int
  pl : Int
structure SixW (w : World) (b p : Nat) (x : Stw) : Prop where
  c0 : w.cell? ⟨b, p, none⟩ = some (.bool x.lay)
  c1 : w.cell? ⟨b, p + 1, none⟩ = some (.int .i64 x.root)
  c2 : w.cell? ⟨b, p + 2, none⟩ = some (.int .i64 x.low)
  c3 : w.cell? ⟨b, p + 3, none⟩ = some (.int .i64 x.page)
  c4 : w.cell? ⟨b, p + 4, none⟩ = some (.int .u64 x.e)
  c5 : w.cell? ⟨b, p + 5, none⟩ = some (.int .u64 x.pl)
theorem cell_lt {w : World} {b o : Nat} {v : Value} (h : w.cell? ⟨b, o, none⟩ = some v) : b < w.heap.size := by
  apply Classical.byContradiction
  intro hn
  rw [World.cell?] at h
  simp [Array.getElem?_eq_none (show w.heap.size ≤ b by omega)] at h
theorem Only.cell {S : Nat → Prop} {w w' : World} (g : Only S w w') {b o : Nat} {v : Value} (h : w.cell? ⟨b, o, none⟩ = some v) (hn : ¬ S b) : w'.cell? ⟨b, o, none⟩ = some v := by
  rw [World.cell?_of_block (w := w) (g.same b (cell_lt h) hn)]; exact h
theorem SixW.carry {S : Nat → Prop} {w w' : World} {b p : Nat} {x : Stw} (h : SixW w b p x) (g : Only S w w') (hn : ¬ S b) : SixW w' b p x :=
  ⟨g.cell h.c0 hn, g.cell h.c1 hn, g.cell h.c2 hn, g.cell h.c3 hn, g.cell h.c4 hn, g.cell h.c5 hn⟩
/-- The steps lie in the block, one behind the other. -/
def LiesW (w : World) (b o : Nat) (L : List Stw) : Prop := ∀ j x, L[j]? = some x → SixW w b (o + j * 6) x
theorem LiesW.kept {w w' : World} {b o : Nat} {L : List Stw} (h : LiesW w b o L) (g : Kept w w') : LiesW w' b o L := fun j x hx => (h j x hx).carry g id
/-- Two memories beside each other, made by the call itself. -/
structure Duo (W w : World) (pm qm pr qr : Nat) (B C : Nat → Int) : Prop where
  m : ProgAt w pm qm B
  r : RefAt w pr qr C
  k : Kept W w
  hm : W.heap.size ≤ qm
  hr : W.heap.size ≤ qr
  n1 : pm ≠ qr
  n2 : qm ≠ qr
  n3 : pr ≠ qm
theorem Duo.kept {W w w' : World} {pm qm pr qr : Nat} {B C : Nat → Int} (h : Duo W w pm qm pr qr B C) (g : Kept w w') : Duo W w' pm qm pr qr B C := ⟨h.m.kept g, h.r.kept g, h.k.then g, h.hm, h.hr, h.n1, h.n2, h.n3⟩
theorem Duo.prog {W w w' : World} {pm qm pr qr : Nat} {B C B' : Nat → Int} (h : Duo W w pm qm pr qr B C) (hm : ProgAt w' pm qm B') (g : Only (fun i => i = qm) w w') : Duo W w' pm qm pr qr B' C :=
  ⟨hm, h.r.carry g h.n3 (Ne.symm h.n2), h.k.new g (fun i hi => by rw [hi]; exact h.hm), h.hm, h.hr, h.n1, h.n2, h.n3⟩
theorem Duo.ref {W w w' : World} {pm qm pr qr : Nat} {B C C' : Nat → Int} (h : Duo W w pm qm pr qr B C) (hr : RefAt w' pr qr C') (g : Only (fun i => i = qr) w w') : Duo W w' pm qm pr qr B C' :=
  ⟨h.m.carry g h.n1 h.n2, hr, h.k.new g (fun i hi => by rw [hi]; exact h.hr), h.hm, h.hr, h.n1, h.n2, h.n3⟩
/-- .. with a step's own block. -/
structure DuoS (W w : World) (pm qm pr qr b : Nat) (x : Stw) (B C : Nat → Int) : Prop where
  t : Duo W w pm qm pr qr B C
  s : SixW w b 0 x
  b1 : b ≠ qm
  b2 : b ≠ qr
section
variable {W w : World} {pm qm pr qr b : Nat} {x : Stw} {B C : Nat → Int}
theorem DuoS.kept {w' : World} (h : DuoS W w pm qm pr qr b x B C) (g : Kept w w') : DuoS W w' pm qm pr qr b x B C := ⟨h.t.kept g, h.s.carry g id, h.b1, h.b2⟩
theorem code_s (h : DuoS W w pm qm pr qr b x B C) (a n : Int) (ha : U a) :
    Calls Try.prog 20 #[.pointer (some ⟨pr, 0, none⟩), .int .u64 a, .int .i64 n] w fun e w' => e = .returned (.int .i64 (codeI a n)) ∧ DuoS W w' pm qm pr qr b x B C :=
  (rcode_any a n ha w pr qr C h.t.r).mono fun _ _ hx => ⟨hx.1, h.kept hx.2⟩
theorem mwrite_s (h : DuoS W w pm qm pr qr b x B C) (a n v : Int) (ha : U a) :
    Calls Try.prog 18 #[.pointer (some ⟨pm, 0, none⟩), .int .u64 a, .int .i64 n, .int .u64 v] w fun e w' => e = .returned (.int .i64 (codeI a n)) ∧ DuoS W w' pm qm pr qr b x (wrZ B a n v) C :=
  (mwrite_any a n v ha w pm qm B h.t.m).mono fun _ _ hx => ⟨hx.1, h.t.prog hx.2.1 hx.2.2, h.s.carry hx.2.2 h.b1, h.b1, h.b2⟩
theorem rwrite_o (h : DuoS W w pm qm pr qr b x B C) (a v : Int) (ha : U a) (hv : U v) (hc : codeI a 8 = 0) :
    Calls Try.prog 21 #[.pointer (some ⟨pr, 0, none⟩), .int .u64 a, .int .i64 8, .int .u64 v] w fun e w' => e = .returned (.tuple #[]) ∧ DuoS W w' pm qm pr qr b x B (wrZ C a 8 v) ∧ Only (fun i => i = qr) w w' := by
  obtain ⟨A, N, rfl, hN, h1, h2⟩ := code_fits ha.1 hc
  obtain rfl : N = 8 := by omega
  rw [wrZ_word hc, Int.toNat_natCast]
  exact (rwrite_any A 8 v hv (by omega) h2 w pr qr C h.t.r).mono fun _ _ hx => ⟨hx.1, ⟨h.t.ref hx.2.1 hx.2.2, h.s.carry hx.2.2 h.b2, h.b1, h.b2⟩, hx.2.2⟩
theorem rwrite_s (h : DuoS W w pm qm pr qr b x B C) (a v : Int) (ha : U a) (hv : U v) (hc : codeI a 8 = 0) :
    Calls Try.prog 21 #[.pointer (some ⟨pr, 0, none⟩), .int .u64 a, .int .i64 8, .int .u64 v] w fun e w' => e = .returned (.tuple #[]) ∧ DuoS W w' pm qm pr qr b x B (wrZ C a 8 v) :=
  (rwrite_o h a v ha hv hc).mono fun _ _ hx => ⟨hx.1, hx.2.1⟩
theorem wlay_s (hT : Tab11 W) (h : DuoS W w pm qm pr qr b x B C) (root low page e : Int) (he : U e) :
    Calls Try.prog 17 #[.pointer (some ⟨pm, 0, none⟩), .int .i64 root, .int .i64 low, .int .i64 page, .int .u64 e] w fun r w' => r = .returned (.int .i64 (bif layO root low then 0 else 60)) ∧ DuoS W w' pm qm pr qr b x (layT B root low page e) C :=
  (wlay_any (hT.kept h.t.k) h.t.m root low page e he).mono fun _ _ hx => ⟨hx.1, h.t.prog hx.2.1 hx.2.2, h.s.carry hx.2.2 h.b1, h.b1, h.b2⟩
end
end Go.Proofs.Ytagfhfmaonoehaa
