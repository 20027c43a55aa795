/-
  What is written into the document's registers of control (Write of the reference): walked whole, for every argument.
-/
import Derived.Test.YtkijdogckfpdpaaDoorRefCsr3
namespace Go.Proofs.YtkijdogckfpdpaaDoor
open Go.RowKit
theorem results_cell2 {fn : Func} {a : Tmp} {t : TypeId} {u : Tmp} (h : fn.results = #[.cell a t, .tmp u]) (tmps : Array Value) (P : Program) (w : World) (ad : Addr) (v : Value) (ha : tmps.getD a undef = .pointer (some ad)) (hl : (loadVar t ad).run P w = .ok v w) :
    (results fn tmps).run P w = .ok (.tuple #[v, tmps.getD u undef]) w := by
  have ha' : tmps[a]?.getD undef = .pointer (some ad) := by rw [← Array.getD_eq_getD_getElem?]; exact ha
  simp [results, h, ha', asAddr, hl]
theorem row_lit (w : World) (c : Array Value) (T : TypeId) : (w.alloc (.cells c T)).rowIs w.heap.size T c.size (fun i => c.getD i undef) :=
  World.rowIs_alloc w c T _ fun i hi => by simp [Array.getD, hi]
/-- A state that the call itself holds, and room for its answer. -/
structure TwoS (W w : World) (b r : Nat) (S : StM) : Prop where
  s : StAt w b S
  room : ∃ F, w.rowIs r 26 65 F
  k : Kept W w
  hb : W.heap.size ≤ b
  hr : W.heap.size ≤ r
  ne : b ≠ r
theorem TwoS.kept {W w w' : World} {b r : Nat} {S : StM} (h : TwoS W w b r S) (g : Kept w w') : TwoS W w' b r S := by
  obtain ⟨F, hF⟩ := h.room
  exact ⟨h.s.kept g, ⟨F, hF.of_block (g.same r hF.lt id)⟩, h.k.then g, h.hb, h.hr, h.ne⟩
theorem TwoS.drew {W w : World} {b r : Nat} {S : StM} (h : TwoS W w b r S) : TwoS W w.drew b r S := h.kept ((Only.refl _ w).drew)
theorem TwoS.set {W w : World} {b r : Nat} {S : StM} (h : TwoS W w b r S) {i : Nat} (hi : i < 29) (x : Int) : TwoS W (w.setCell ⟨b, 35 + i, none⟩ (.int .u64 x)) b r (S.setC i x) := by
  obtain ⟨F, hF⟩ := h.room
  exact ⟨h.s.set hi x, ⟨F, hF.setOther (a := ⟨b, 35 + i, none⟩) (Ne.symm h.ne) _⟩, h.k.new ((Only.refl (fun j => j = b) w).setCell (x := ⟨b, 35 + i, none⟩) rfl _) (fun j hj => by rw [hj]; exact h.hb), h.hb, h.hr, h.ne⟩
theorem TwoS.out {W w : World} {b r : Nat} {S : StM} (h : TwoS W w b r S) : StAt (w.setRow r (rowOf 65 (stF S))) r S ∧ Kept W (w.setRow r (rowOf 65 (stF S))) := by
  obtain ⟨F, hF⟩ := h.room
  exact ⟨row_stored hF _, h.k.new ((Only.refl (fun j => j = r) w).setRow rfl _) (fun j hj => by rw [hj]; exact h.hr)⟩
theorem load_state {w : World} {b : Nat} {S : StM} (h : StAt w b S) : (loadVar 26 ⟨b, 0, none⟩).run Tryd.prog w = .ok (.agg (rowOf 65 (stF S))) w :=
  load_row h _ Tryd.underlying26 rfl st_size
theorem two_new {w w1 : World} {S : StM} {c : Array Value} (hc : c.size = 65) (g : Kept ((w.alloc (.cells (rowOf 65 (stF S)) 26)).alloc (.cells c 26)) w1) : TwoS w w1 w.heap.size (w.heap.size + 1) S := by
  have h1 : StAt ((w.alloc (.cells (rowOf 65 (stF S)) 26)).alloc (.cells c 26)) w.heap.size S := World.rowIs.alloc (st_new w S) _
  have hn : (w.alloc (.cells (rowOf 65 (stF S)) 26)).heap.size = w.heap.size + 1 := Go.Deep.nblk_alloc _ _
  have h2 := row_lit (w.alloc (.cells (rowOf 65 (stF S)) 26)) c 26
  rw [hn, hc] at h2
  exact ⟨h1.kept g, ⟨_, h2.of_block (g.same _ h2.lt id)⟩, (((Only.refl _ w).alloc _).alloc _).then g, Nat.le_refl _, by omega, by omega⟩
/-- An empty state's cells. -/
def zF (i : Nat) : Value := stF ⟨fun _ => 0, 0, 0, false, fun _ => 0, 0⟩ i
theorem st_zero : (Tryd.prog.info? 26).map (fun i => i.zero.map (·.cells)) = some (some (rowOf 65 zF)) := by kernel_rfl
section
variable {S : StM}
end
end Go.Proofs.YtkijdogckfpdpaaDoor
