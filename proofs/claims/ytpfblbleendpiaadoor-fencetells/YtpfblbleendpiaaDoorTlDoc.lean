/-
  What was walked already, as the document tells it: sixteen entries. Plain facts: no call of the program is walked here.
-/
import Derived.Test.YtpfblbleendpiaaDoorEntAl
import Derived.Deep.MidRow
namespace Go.Proofs.YtpfblbleendpiaaDoor
open Go.RowKit
/-- The first of n places from i on that is meant; -1. -/
def findF (h : Nat → Bool) : Nat → Nat → Int
  | 0, _ => -1
  | n + 1, i => bif h i then (i : Int) else findF h n (i + 1)
theorem find_cases (h : Nat → Bool) : ∀ n i : Nat, findF h n i = -1 ∨ ∃ j : Nat, i ≤ j ∧ j < i + n ∧ h j = true ∧ findF h n i = j
  | 0, _ => .inl rfl
  | n + 1, i => by
    unfold findF
    cases hi : h i
    · rcases find_cases h n (i + 1) with e | ⟨j, h1, h2, h3, h4⟩
      · exact .inl e
      · exact .inr ⟨j, by omega, by omega, h3, h4⟩
    · exact .inr ⟨i, by omega, by omega, hi, rfl⟩
theorem find_none (h : Nat → Bool) : ∀ n i : Nat, (∀ j, i ≤ j → j < i + n → h j = false) → findF h n i = -1
  | 0, _, _ => rfl
  | n + 1, i, hh => by
    unfold findF
    rw [hh i (by omega) (by omega), cond_false]
    exact find_none h n (i + 1) fun j h1 h2 => hh j (by omega) (by omega)
theorem find_first (h : Nat → Bool) (k : Nat) (hk : h k = true) : ∀ n i : Nat, i ≤ k → k < i + n → (∀ j, i ≤ j → j < k → h j = false) → findF h n i = k
  | 0, i, h0, h1, _ => by omega
  | n + 1, i, h0, h1, hh => by
    unfold findF
    by_cases e : i = k
    · rw [e, hk, cond_true]
    · rw [hh i (by omega) (by omega), cond_false]
      exact find_first h k hk n (i + 1) (by omega) (by omega) fun j h2 h3 => hh j (by omega) h3
def hitE (page : Int) (v : Bool) (asid vmid : Int) (e : EntM) : Bool := e.valid && ((e.page == page) && ((e.v == v) && ((e.asid == asid) && (e.vmid == vmid))))
def hitP (T : Nat → EntM) (page : Int) (v : Bool) (asid vmid : Int) (i : Nat) : Bool := hitE page v asid vmid (T i)
def freeP (T : Nat → EntM) (i : Nat) : Bool := !(T i).valid
/-- Whether two are the same in all. -/
def eqE (e f : EntM) : Bool := (e.valid == f.valid) && ((e.v == f.v) && ((e.page == f.page) && ((e.asid == f.asid) && ((e.vmid == f.vmid) && ((e.frame == f.frame) && ((e.bits == f.bits) && ((e.host == f.host) && (e.guest == f.guest))))))))
theorem eqE_self (e : EntM) : eqE e e = true := by unfold eqE; simp
theorem eqE_eq {e f : EntM} (h : eqE e f = true) : e = f := by
  unfold eqE at h
  simp only [Bool.and_eq_true, beq_iff_eq] at h
  obtain ⟨h1, h2, h3, h4, h5, h6, h7, h8, h9⟩ := h
  cases e; cases f
  simp_all
def sameP (T : Nat → EntM) (e : EntM) (i : Nat) : Bool := (T i).valid && eqE (T i) e
def atT (T : Nat → EntM) (page : Int) (v : Bool) (asid vmid : Int) : Int := findF (hitP T page v asid vmid) 16 0
def setT (T : Nat → EntM) (i : Int) (e : EntM) : Nat → EntM := fun j => if (j : Int) = i then e else T j
/-- Where an entry goes. -/
def spotT (T : Nat → EntM) (e : EntM) (pick : Int) : Int :=
  if ¬ atT T e.page e.v e.asid e.vmid < 0 then atT T e.page e.v e.asid e.vmid else if ¬ findF (freeP T) 16 0 < 0 then findF (freeP T) 16 0 else pick % 16
def fillT (T : Nat → EntM) (e : EntM) (pick : Int) : Nat → EntM := bif e.valid then setT T (spotT T e pick) e else T
def lookT (T : Nat → EntM) (page : Int) (v : Bool) (asid vmid : Int) : EntM := if atT T page v asid vmid < 0 then entNone else T (atT T page v asid vmid).toNat
def isT (T : Nat → EntM) (page : Int) (v : Bool) (asid vmid : Int) : Bool := decide (0 ≤ atT T page v asid vmid)
/-- All of n places from i on. -/
def allF (T : Nat → EntM) : Nat → Nat → List EntM
  | 0, _ => []
  | n + 1, i => bif (T i).valid then T i :: allF T n (i + 1) else allF T n (i + 1)
def allT (T : Nat → EntM) : List EntM := allF T 16 0
def dropI (T : Nat → EntM) (e : EntM) : Int := findF (sameP T e) 16 0
def dropT (T : Nat → EntM) (e : EntM) : Nat → EntM := if dropI T e < 0 then T else setT T (dropI T e) entNone
def noneT : Nat → EntM := fun _ => entNone
theorem spot_bd (T : Nat → EntM) (e : EntM) (pick : Int) : 0 ≤ spotT T e pick ∧ spotT T e pick < 16 := by
  unfold spotT atT
  have a := find_cases (hitP T e.page e.v e.asid e.vmid) 16 0
  have b := find_cases (freeP T) 16 0
  split
  · rcases a with a | ⟨j, h1, h2, h3, h4⟩ <;> omega
  · split
    · rcases b with b | ⟨j, h1, h2, h3, h4⟩ <;> omega
    · omega
theorem all_len (T : Nat → EntM) : ∀ n i, (allF T n i).length ≤ n
  | 0, _ => Nat.le_refl _
  | n + 1, i => by
    unfold allF
    have := all_len T n (i + 1)
    cases (T i).valid
    · rw [cond_false]; omega
    · rw [cond_true, List.length_cons]; omega
/-- All that is there, one more. -/
theorem all_snoc (T : Nat → EntM) : ∀ n i, allF T (n + 1) i = allF T n i ++ (bif (T (i + n)).valid then [T (i + n)] else [])
  | 0, i => by
    unfold allF
    simp only [allF, List.nil_append, Nat.add_zero]
  | n + 1, i => by
    have ih := all_snoc T n (i + 1)
    rw [allF, ih, allF, show i + 1 + n = i + (n + 1) by omega]
    cases (T i).valid
    · rw [cond_false, cond_false]
    · rw [cond_true, cond_true, List.cons_append]
theorem Blk.range {w : World} {b : Nat} {T : TypeId} {cs : Array Value} (h : Blk w b T cs) : w.rangeAt b 0 cs.toList := fun j v hj => by
  rw [Nat.zero_add]; exact h.all j v hj
/-- Sixteen entries that lie in a block. -/
structure TlAt (w : World) (b : Nat) (T : Nat → EntM) : Prop where
  lt : b < w.heap.size
  at_ : ∀ i, i < 16 → w.rangeAt b (i * 9) (entA (T i))
  free : ∀ j, j < 144 → w.frozen? ⟨b, j, none⟩ = false
theorem ent9 (e : EntM) : (entA e).length = 9 := rfl
theorem TlAt.same {w w' : World} {b : Nat} {T : Nat → EntM} (h : TlAt w b T) {S : Nat → Prop} (g : Only S w w') (hn : ¬ S b) : TlAt w' b T := by
  have hb : w'.heap[b]? = w.heap[b]? := g.same b h.lt hn
  refine ⟨Nat.lt_of_lt_of_le h.lt g.size, fun i hi j v hv => ?_, fun j hj => ?_⟩
  · rw [World.cell?_of_block (w := w) (a := ⟨b, i * 9 + j, none⟩) hb]; exact h.at_ i hi j v hv
  · have hf := h.free j hj
    unfold World.frozen? at *
    rw [hb]; exact hf
theorem TlAt.kept {w w' : World} {b : Nat} {T : Nat → EntM} (h : TlAt w b T) (g : Kept w w') : TlAt w' b T := h.same g id
theorem TlAt.there {w : World} {b : Nat} {T : Nat → EntM} (h : TlAt w b T) {i : Nat} (hi : i < 16) : w.there b (i * 9) 9 := fun j hj => by
  have hj' : j < (entA (T i)).length := hj
  refine ⟨?_, h.free _ (by omega)⟩
  rw [h.at_ i hi j _ (List.getElem?_eq_getElem hj')]
  rfl
theorem only_cells (b : Nat) : ∀ (vs : List Value) (o : Nat) (w : World), Only (fun i => i = b) w (w.setCells b o vs)
  | [], _, w => Only.refl _ w
  | v :: r, o, w => by
    rw [World.setCells]
    exact (Only.setCell (Only.refl (fun i => i = b) w) (x := ⟨b, o, none⟩) rfl v).trans (only_cells b r (o + 1) _)
theorem TlAt.set {w : World} {b : Nat} {T : Nat → EntM} (h : TlAt w b T) {i : Nat} (hi : i < 16) (e : EntM) : TlAt (w.setCells b (i * 9) (entA e)) b (setT T i e) := by
  have g := only_cells b (entA e) (i * 9) w
  refine ⟨Nat.lt_of_lt_of_le h.lt g.size, fun j hj => ?_, fun j hj => ?_⟩
  · unfold setT
    by_cases e1 : j = i
    · subst e1
      rw [if_pos rfl]
      exact World.rangeAt_setCells_same w b (j * 9) (entA e) (h.there hi)
    · rw [if_neg (by omega)]
      refine World.rangeAt_setCells_apart (h.at_ j hj) b (i * 9) (entA e) ?_
      rw [ent9, ent9]
      omega
  · rw [World.frozen?_setCells]; exact h.free j hj
end Go.Proofs.YtpfblbleendpiaaDoor
