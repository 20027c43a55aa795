/-
  What was there stays as it was ('More': new memory, frozen or not, may lie behind it); the listed tables.
-/
import Derived.Test.YtdogjmimjjmmaaaDoorEncShelf
import Derived.Test.YtdogjmimjjmmaaaDoorEncWord
import Derived.Below
import Derived.Sort.Grow
namespace Go.Proofs.YtdogjmimjjmmaaaDoor
open Go.RowKit
def More (W w' : World) : Prop := W.keptBut w' (fun _ => False) ∧ W.heap.size ≤ w'.heap.size
theorem More.refl (W : World) : More W W := ⟨World.keptBut_refl _ _, Nat.le_refl _⟩
theorem Grown.more {a b : World} (h : Grown a b) : More a b := ⟨h.1, h.2.2⟩
theorem More.trans' {a b c : World} (h : More a b) (g : More b c) : More a c := ⟨World.keptBut_trans h.1 (World.keptBut_mono (fun _ f => f.elim) g.1), Nat.le_trans h.2 g.2⟩
theorem More.alloc {W w' : World} (h : More W w') (c : Array Value) (t : TypeId) : More W (w'.alloc (.cells c t)) :=
  ⟨World.keptBut_trans h.1 (World.keptBut_alloc _ _ _), Nat.le_trans h.2 (by show w'.heap.size ≤ (w'.heap.push _).size; simp)⟩
theorem More.drew {W w' : World} (h : More W w') : More W w'.drew := h
theorem More.of_below {W w' : World} (h : Below W.heap.size W w') : More W w' := ⟨h.frame _, h.size⟩
theorem More.grow (w : World) (k : Nat) (os : Array Obj) : More w (Go.Sort.grow (w.drewN k) os) :=
  .of_below ⟨rfl, rfl, rfl, by show w.heap.size ≤ (w.heap ++ os).size; simp, fun i hi => by show (w.heap ++ os)[i]? = _; rw [Array.getElem?_append_left hi]⟩
theorem More.cell {a b : World} (h : More a b) {n i : Nat} {v : Value} (hv : a.cell? ⟨n, i, none⟩ = some v) : b.cell? ⟨n, i, none⟩ = some v := by
  have hlt : n < a.heap.size := by
    apply Classical.byContradiction
    intro hn
    rw [World.cell?] at hv
    simp [Array.getElem?_eq_none (show a.heap.size ≤ n by omega)] at hv
  rw [← hv]
  exact h.1.cell hlt (fun f => f)
theorem More.block {a b : World} (h : More a b) {i : Nat} {c : Array Value} {t : TypeId} {fr : Nat × Nat} (hi : a.heap[i]? = some (.cells c t fr)) : b.heap[i]? = some (.cells c t fr) := by
  have hlt : i < a.heap.size := (Array.getElem?_eq_some_iff.1 hi).1
  have h3 := h.1.2.2 i hlt
  rw [hi] at h3
  cases hb : b.heap[i]? with
  | none => rw [hb] at h3; simp at h3
  | some o =>
    cases o <;> rw [hb] at h3 <;> simp at h3
    case cells c' t' fr' =>
      obtain ⟨rfl, rfl, hsz, hc⟩ := h3
      have : c' = c := Array.ext_getElem? (fun j => hc j)
      rw [this]
theorem Six.more {w w' : World} {b : Nat} {op rd rs1 rs2 imm csr : Int} (h : Six w b op rd rs1 rs2 imm csr) (g : More w w') : Six w' b op rd rs1 rs2 imm csr :=
  ⟨g.cell h.c0, g.cell h.c1, g.cell h.c2, g.cell h.c3, g.cell h.c4, g.cell h.c5⟩
/-- The tables that package encode's calls read. -/
structure Tab4 (w : World) : Prop where
  i : TabI w
  k : TabK w
  f : TabF w
  t : TabT w
  p : Lib.TabIs Tryd.prog w "internal/strconv.uint64pow10" .u64 Lib.pow10Tab
theorem tabis_more {a b : World} (hp : Lib.TabIs Tryd.prog a "internal/strconv.uint64pow10" .u64 Lib.pow10Tab) (g : More a b) : Lib.TabIs Tryd.prog b "internal/strconv.uint64pow10" .u64 Lib.pow10Tab := by
  unfold Lib.TabIs World.var? at *
  cases hg : Program.globalNamed Tryd.prog "internal/strconv.uint64pow10" with
  | none => simp [hg] at hp
  | some j =>
    simp only [hg, Option.bind_some] at hp ⊢
    cases hb : a.heap[j]? with
    | none => simp [hb] at hp
    | some o =>
      cases o with
      | cells c t fr => rw [hb] at hp; rw [g.block hb]; exact hp
      | _ => simp [hb] at hp
theorem Tab4.grown {a b : World} (h : Tab4 a) (g : More a b) : Tab4 b :=
  ⟨fun i v hi => g.cell (h.i i v hi), fun i v hi => g.cell (h.k i v hi), fun i v hi => g.cell (h.f i v hi), fun i v hi => g.cell (h.t i v hi), tabis_more h.p g⟩
end Go.Proofs.YtdogjmimjjmmaaaDoor
