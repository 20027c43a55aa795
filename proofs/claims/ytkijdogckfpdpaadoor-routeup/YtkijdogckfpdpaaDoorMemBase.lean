/-
  Memory of 32768 bytes: what a block of it holds, what a call leaves as it was, what is read and written. Plain facts on worlds and numbers: nothing of the program is walked here.
-/
import Derived.Test.YtkijdogckfpdpaaDoorBits
import Derived.Deep.OwnRows
import Derived.Deep.Draws
namespace Go.Proofs.YtkijdogckfpdpaaDoor
open Go.RowKit
/-- All blocks that were there but those of S are as they were. -/
structure Only (S : Nat → Prop) (w w' : World) : Prop where
  os : w'.os = w.os
  out : w'.output = w.output
  size : w.heap.size ≤ w'.heap.size
  same : ∀ i, i < w.heap.size → ¬ S i → w'.heap[i]? = w.heap[i]?
/-- Nothing of what was there has turned. -/
abbrev Kept (w w' : World) : Prop := Only (fun _ => False) w w'
theorem Only.refl (S : Nat → Prop) (w : World) : Only S w w := ⟨rfl, rfl, Nat.le_refl _, fun _ _ _ => rfl⟩
theorem Only.mono {S T : Nat → Prop} {w w' : World} (h : Only S w w') (hs : ∀ i, S i → T i) : Only T w w' :=
  ⟨h.os, h.out, h.size, fun i hi hn => h.same i hi (fun hS => hn (hs i hS))⟩
theorem Only.trans {S : Nat → Prop} {a b c : World} (h : Only S a b) (g : Only S b c) : Only S a c :=
  ⟨g.os.trans h.os, g.out.trans h.out, Nat.le_trans h.size g.size, fun i hi hn => (g.same i (Nat.lt_of_lt_of_le hi h.size) hn).trans (h.same i hi hn)⟩
theorem Only.then {S : Nat → Prop} {a b c : World} (h : Only S a b) (g : Kept b c) : Only S a c := h.trans (g.mono fun _ f => f.elim)
theorem Kept.then {S : Nat → Prop} {a b c : World} (h : Kept a b) (g : Only S b c) : Only S a c := Only.trans (h.mono fun _ f => f.elim) g
/-- What was written is new behind a world that was there before. -/
theorem Only.new {S T : Nat → Prop} {a b c : World} (h : Only S a b) (g : Only T b c) (ht : ∀ i, T i → a.heap.size ≤ i) : Only S a c :=
  ⟨g.os.trans h.os, g.out.trans h.out, Nat.le_trans h.size g.size, fun i hi hn => (g.same i (Nat.lt_of_lt_of_le hi h.size) (fun hT => by have := ht i hT; omega)).trans (h.same i hi hn)⟩
theorem Only.alloc {S : Nat → Prop} {a b : World} (h : Only S a b) (o : Obj) : Only S a (b.alloc o) :=
  h.trans ⟨rfl, rfl, by rw [Go.Deep.nblk_alloc]; omega, fun i hi _ => Go.Deep.blk_alloc_lt _ _ _ hi⟩
theorem Only.drew {S : Nat → Prop} {a b : World} (h : Only S a b) : Only S a b.drew := ⟨h.os, h.out, h.size, h.same⟩
theorem Only.setCell {S : Nat → Prop} {a b : World} (h : Only S a b) {x : Addr} (hx : S x.block) (v : Value) : Only S a (b.setCell x v) :=
  h.trans ⟨rfl, rfl, by rw [Go.Deep.nblk_setCell]; exact Nat.le_refl _, fun i _ hn => Go.Deep.blk_setCell_other _ _ _ _ (fun e => hn (e ▸ hx))⟩
theorem Only.setRow {S : Nat → Prop} {a b : World} (h : Only S a b) {g : Nat} (hx : S g) (cs : Array Value) : Only S a (b.setRow g cs) :=
  h.trans ⟨rfl, rfl, by simp [World.setRow], fun i _ hn => setRow_other _ _ _ _ (fun e => hn (e ▸ hx))⟩
theorem Only.of_grown {S : Nat → Prop} {a b : World} (h : Grown a b) : Only S a b := by
  refine ⟨h.1.1, h.1.2.1, h.2.2, fun i hi _ => ?_⟩
  have h3 := h.1.2.2 i hi
  cases ha : a.heap[i]? with
  | none => rw [ha] at h3; simpa using h3
  | some o =>
    cases hb : b.heap[i]? with
    | none => rw [ha, hb] at h3; cases o <;> simp at h3
    | some o' =>
      rw [ha, hb] at h3
      cases o <;> cases o' <;> simp at h3 <;> try (first | rw [h3] | (obtain ⟨rfl, rfl⟩ := h3; rfl) | (obtain ⟨rfl, rfl, rfl, rfl⟩ := h3; rfl) | (obtain ⟨rfl, rfl, rfl, rfl, rfl, rfl⟩ := h3; rfl))
      case cells c t fr c' t' fr' =>
        obtain ⟨rfl, rfl, _, hc⟩ := h3
        rw [show c' = c from Array.ext_getElem? hc]
theorem Only.block {S : Nat → Prop} {a b : World} (h : Only S a b) {i : Nat} {o : Obj} (hi : a.heap[i]? = some o) (hn : ¬ S i) : b.heap[i]? = some o := by
  rw [h.same i (Array.getElem?_eq_some_iff.1 hi).1 hn, hi]
theorem Kept.cell {w w' : World} (k : Kept w w') {a : Addr} {v : Value} (h : w.cell? a = some v) : w'.cell? a = some v := by
  unfold World.cell? at h ⊢
  by_cases hi : a.block < w.heap.size
  · rw [k.same _ hi id]; exact h
  · rw [Array.getElem?_eq_none (by omega)] at h; cases h
theorem Only.drewN {S : Nat → Prop} {a b : World} (h : Only S a b) (n : Nat) : Only S a (b.drewN n) := ⟨h.os, h.out, h.size, h.same⟩
theorem Only.frame {S : Nat → Prop} {W w' : World} (h : Only S W w') (hs : ∀ i, S i → W.heap.size ≤ i) (may : MemPlace → Prop) : W.keptBut w' may := by
  refine ⟨h.os, h.out, fun i hi => ?_⟩
  rw [h.same i hi (fun hS => by have := hs i hS; omega)]
  split <;> simp_all
/-- A memory: the object at block p has its bytes in block q. -/
structure MemAt (T E : TypeId) (w : World) (p q : Nat) (B : Nat → Int) : Prop where
  obj : w.heap[p]? = some (.cells #[.slice (some ⟨q, 0, none⟩) 32768 32768] T (0, 0))
  row : w.rowIs q E 32768 (fun i => .int .u8 (B i))
  byte : ∀ i, i < 32768 → 0 ≤ B i ∧ B i < 256
theorem MemAt.ne {T E : TypeId} {w : World} {p q : Nat} {B : Nat → Int} (h : MemAt T E w p q B) : p ≠ q := by
  rintro rfl
  obtain ⟨c, hb, hn, _⟩ := h.row
  rw [h.obj] at hb
  simp at hb
  rw [← hb.1] at hn
  simp at hn
theorem MemAt.cell {T E : TypeId} {w : World} {p q : Nat} {B : Nat → Int} (h : MemAt T E w p q B) : w.cell? ⟨p, 0, none⟩ = some (.slice (some ⟨q, 0, none⟩) 32768 32768) := by
  simp [World.cell?, h.obj]
theorem MemAt.at {T E : TypeId} {w : World} {p q : Nat} {B : Nat → Int} (h : MemAt T E w p q B) {i : Nat} (hi : i < 32768) : w.cell? ⟨q, i, none⟩ = some (.int .u8 (B i)) := h.row.cell hi
theorem MemAt.lt {T E : TypeId} {w : World} {p q : Nat} {B : Nat → Int} (h : MemAt T E w p q B) : p < w.heap.size ∧ q < w.heap.size := ⟨(Array.getElem?_eq_some_iff.1 h.obj).1, h.row.lt⟩
theorem MemAt.carry {S : Nat → Prop} {T E : TypeId} {w w' : World} {p q : Nat} {B : Nat → Int} (h : MemAt T E w p q B) (g : Only S w w') (hp : ¬ S p) (hq : ¬ S q) : MemAt T E w' p q B :=
  ⟨g.block h.obj hp, h.row.of_block (g.same q h.row.lt hq), h.byte⟩
theorem MemAt.kept {T E : TypeId} {w w' : World} {p q : Nat} {B : Nat → Int} (h : MemAt T E w p q B) (g : Kept w w') : MemAt T E w' p q B := h.carry g id id
theorem MemAt.set {T E : TypeId} {w : World} {p q : Nat} {B : Nat → Int} (h : MemAt T E w p q B) (i : Nat) (x : Int) (hx : 0 ≤ x ∧ x < 256) : MemAt T E (w.setCell ⟨q, i, none⟩ (.int .u8 x)) p q (fun j => if j = i then x else B j) := by
  refine ⟨?_, ?_, fun j hj => ?_⟩
  · rw [Go.Deep.blk_setCell_other _ _ _ _ h.ne]; exact h.obj
  · refine (h.row.set i (.int .u8 x)).congr fun j _ => ?_
    by_cases e : j = i <;> simp [e]
  · show 0 ≤ (if j = i then x else B j) ∧ (if j = i then x else B j) < 256
    split
    · exact hx
    · exact h.byte j hj
theorem MemAt.congr {T E : TypeId} {w : World} {p q : Nat} {B C : Nat → Int} (h : MemAt T E w p q B) (e : ∀ i, i < 32768 → B i = C i) : MemAt T E w p q C :=
  ⟨h.obj, h.row.congr fun i hi => by rw [e i hi], fun i hi => by rw [← e i hi]; exact h.byte i hi⟩
/-- The number of n bytes from a place on, the least first. -/
def rdF (B : Nat → Int) (a : Nat) : Nat → Int
  | 0 => 0
  | n + 1 => B a + 256 * rdF B (a + 1) n
/-- The bytes behind a write of n bytes of v from a place on. -/
def wrF (B : Nat → Int) (a n : Nat) (v : Int) : Nat → Int := fun i => if a ≤ i ∧ i < a + n then v / 256 ^ (i - a) % 256 else B i
/-- The bytes behind a text laid from a place on. -/
def layF (B : Nat → Int) (a : Nat) (s : List UInt8) : Nat → Int := fun i => if a ≤ i ∧ i < a + s.length then ((s.getD (i - a) 0).toNat : Int) else B i
theorem rd_bd {B : Nat → Int} : ∀ (n a : Nat), a + n ≤ 32768 → (∀ i, i < 32768 → 0 ≤ B i ∧ B i < 256) → 0 ≤ rdF B a n ∧ rdF B a n < 256 ^ n
  | 0, a, _, _ => by simp [rdF]
  | n + 1, a, h, hb => by
    have ih := rd_bd n (a + 1) (by omega) hb
    have h0 := hb a (by omega)
    rw [rdF, Int.pow_succ]
    omega
theorem rd_congr {B C : Nat → Int} : ∀ (n a : Nat), (∀ i, a ≤ i → i < a + n → B i = C i) → rdF B a n = rdF C a n
  | 0, a, _ => rfl
  | n + 1, a, h => by rw [rdF, rdF, h a (by omega) (by omega), rd_congr n (a + 1) fun i h1 h2 => h i (by omega) (by omega)]
theorem or_and_sum : ∀ (n X Y : Nat), X < 2 ^ n → Y < 2 ^ n → (X ||| Y) + (X &&& Y) = X + Y
  | 0, X, Y, hX, hY => by
    obtain rfl : X = 0 := by simpa using hX
    obtain rfl : Y = 0 := by simpa using hY
    rfl
  | n + 1, X, Y, hX, hY => by
    have ih := or_and_sum n (X / 2) (Y / 2) (by omega) (by omega)
    have d1 : (X ||| Y) / 2 = X / 2 ||| Y / 2 := by simpa using Nat.or_div_two_pow (a := X) (b := Y) (n := 1)
    have d2 : (X &&& Y) / 2 = X / 2 &&& Y / 2 := by simpa using Nat.and_div_two_pow (a := X) (b := Y) (n := 1)
    have m1 : (X ||| Y) % 2 = X % 2 ||| Y % 2 := by simpa using Nat.or_mod_two_pow (a := X) (b := Y) (n := 1)
    have m2 : (X &&& Y) % 2 = X % 2 &&& Y % 2 := by simpa using Nat.and_mod_two_pow (a := X) (b := Y) (n := 1)
    rcases Nat.mod_two_eq_zero_or_one X with hx | hx <;> rcases Nat.mod_two_eq_zero_or_one Y with hy | hy <;> rw [hx, hy] at m1 m2 <;> simp only [Nat.reduceOr, Nat.reduceAnd] at m1 m2 <;> omega
theorem sum_or {x y : Int} (hx : U x) (hy : U y) (hz : bits .and .u64 x y = 0) : bits .or .u64 x y = x + y := by
  obtain ⟨X, rfl, hX⟩ := hx.nat
  obtain ⟨Y, rfl, hY⟩ := hy.nat
  rw [bits_and] at hz
  rw [bits_or]
  simp only [BitVec.ofInt_natCast, BitVec.toNat_or, BitVec.toNat_and, BitVec.toNat_ofNat, Nat.mod_eq_of_lt hX, Nat.mod_eq_of_lt hY] at hz ⊢
  have h := or_and_sum 64 X Y hX hY
  omega
end Go.Proofs.YtkijdogckfpdpaaDoor
