/-
  A state of the machine: its sixty-five cells; states that are compared, loaded and stored whole. Nothing of the program is walked here.
-/
import Derived.Test.YtkijdogckfpdpaaDoorRowIs
import Derived.Test.YtkijdogckfpdpaaDoorMemBase
import Derived.DeepKeys
import Derived.Laws.StructEq
namespace Go.Proofs.YtkijdogckfpdpaaDoor
open Go.RowKit
/-- A state: registers, where it is, its level, whether that is a guest's, registers of control, how many are done. -/
structure StM where
  X : Nat → Int
  pc : Int
  lvl : Int
  v : Bool
  C : Nat → Int
  done : Int
def stF (S : StM) (i : Nat) : Value := if i < 32 then .int .u64 (S.X i) else if i = 32 then .int .u64 S.pc else if i = 33 then .int .i64 S.lvl else if i = 34 then .bool S.v else if i < 64 then .int .u64 (S.C (i - 35)) else .int .u64 S.done
def stV (S : StM) : Value := .agg (rowOf 65 (stF S))
def I64 (x : Int) : Prop := -9223372036854775808 ≤ x ∧ x ≤ 9223372036854775807
structure StM.Ok (S : StM) : Prop where
  X : ∀ i, i < 32 → U (S.X i)
  pc : U S.pc
  lvl : I64 S.lvl
  C : ∀ i, i < 29 → U (S.C i)
  done : U S.done
theorem stF_C (S : StM) {i : Nat} (h : i < 29) : stF S (35 + i) = .int .u64 (S.C i) := by
  unfold stF; rw [if_neg (by omega), if_neg (by omega), if_neg (by omega), if_neg (by omega), if_pos (by omega), Nat.add_sub_cancel_left]
theorem stF_done (S : StM) : stF S 64 = .int .u64 S.done := rfl
theorem stF_one (S : StM) (i : Nat) : (stF S i).oneCell' = true := by
  unfold stF
  split
  · rfl
  · split
    · rfl
    · split
      · rfl
      · split
        · rfl
        · split <;> rfl
/-- A register of control is another one now. -/
def StM.setC (S : StM) (i : Nat) (x : Int) : StM := ⟨S.X, S.pc, S.lvl, S.v, fun j => if j = i then x else S.C j, S.done⟩
theorem StM.setC_at (S : StM) (i : Nat) (x : Int) : (S.setC i x).C i = x := if_pos rfl
theorem StM.setC_other (S : StM) {i j : Nat} (x : Int) (h : j ≠ i) : (S.setC i x).C j = S.C j := if_neg h
theorem StM.setC_set (S : StM) (i : Nat) (x y : Int) : (S.setC i x).setC i y = S.setC i y := by
  unfold StM.setC
  congr 1
  funext j
  simp only
  split <;> rfl
theorem StM.setC_self (S : StM) (i : Nat) : S.setC i (S.C i) = S := by
  unfold StM.setC
  cases S
  congr 1
  funext j
  simp only
  split
  · rename_i e; rw [e]
  · rfl
theorem StM.Ok.setC {S : StM} (h : S.Ok) (i : Nat) {x : Int} (hx : U x) : (S.setC i x).Ok :=
  ⟨h.X, h.pc, h.lvl, fun j hj => by show U (if j = i then x else S.C j); split; exact hx; exact h.C j hj, h.done⟩
theorem stF_setC (S : StM) {i : Nat} (hi : i < 29) (x : Int) (j : Nat) : stF (S.setC i x) j = if j = 35 + i then .int .u64 x else stF S j := by
  by_cases e : j = 35 + i
  · rw [if_pos e, e, stF_C _ hi, StM.setC_at]
  · rw [if_neg e]
    unfold stF
    by_cases h0 : j < 32
    · rw [if_pos h0, if_pos h0]; rfl
    · rw [if_neg h0, if_neg h0]
      by_cases h1 : j = 32
      · rw [if_pos h1, if_pos h1]; rfl
      · rw [if_neg h1, if_neg h1]
        by_cases h2 : j = 33
        · rw [if_pos h2, if_pos h2]; rfl
        · rw [if_neg h2, if_neg h2]
          by_cases h3 : j = 34
          · rw [if_pos h3, if_pos h3]; rfl
          · rw [if_neg h3, if_neg h3]
            by_cases h4 : j < 64
            · rw [if_pos h4, if_pos h4, StM.setC_other _ _ (by omega)]
            · rw [if_neg h4, if_neg h4]; rfl
/-- A block that holds a state. -/
abbrev StAt (w : World) (b : Nat) (S : StM) : Prop := w.rowIs b 26 65 (stF S)
theorem StAt.c {w : World} {b : Nat} {S : StM} (h : StAt w b S) {i : Nat} (hi : i < 29) : w.cell? ⟨b, 35 + i, none⟩ = some (.int .u64 (S.C i)) := by rw [h.cell (by omega), stF_C S hi]
theorem StAt.set {w : World} {b : Nat} {S : StM} (h : StAt w b S) {i : Nat} (hi : i < 29) (x : Int) : StAt (w.setCell ⟨b, 35 + i, none⟩ (.int .u64 x)) b (S.setC i x) :=
  (World.rowIs.set h (35 + i) _).congr fun j _ => by rw [stF_setC S hi]
theorem st_lvl {w : World} {b : Nat} {S : StM} (h : StAt w b S) : w.cell? ⟨b, 33, none⟩ = some (.int .i64 S.lvl) := h.cell (i := 33) (by omega)
theorem st_v {w : World} {b : Nat} {S : StM} (h : StAt w b S) : w.cell? ⟨b, 34, none⟩ = some (.bool S.v) := h.cell (i := 34) (by omega)
theorem st_pc {w : World} {b : Nat} {S : StM} (h : StAt w b S) : w.cell? ⟨b, 32, none⟩ = some (.int .u64 S.pc) := h.cell (i := 32) (by omega)
theorem st_new (w : World) (S : StM) : StAt (w.alloc (.cells (rowOf 65 (stF S)) 26)) w.heap.size S := row_alloc w 65 (stF S) _
theorem st_size : (Tryd.prog.info? 26).map (·.size) = some 65 := by kernel_rfl
theorem wf_U {x : Int} (h : U x) : (Lit.int .u64 x).wf = true := by
  have e1 : IntKind.u64.min = 0 := by decide
  have e2 : IntKind.u64.max = 18446744073709551615 := by decide
  obtain ⟨h0, h1⟩ := h
  simp only [Lit.wf, e1, e2, Bool.and_eq_true, decide_eq_true_eq]
  omega
theorem wf_I {x : Int} (h : I64 x) : (Lit.int .i64 x).wf = true := by
  have e1 : IntKind.i64.min = -9223372036854775808 := by decide
  have e2 : IntKind.i64.max = 9223372036854775807 := by decide
  obtain ⟨h0, h1⟩ := h
  simp only [Lit.wf, e1, e2, Bool.and_eq_true, decide_eq_true_eq]
  omega
theorem mapM_all {α β : Type} (f : α → Option β) (g : α → β) : ∀ (l : List α), (∀ a ∈ l, f a = some (g a)) → l.mapM f = some (l.map g)
  | [], _ => rfl
  | a :: l, h => by
    simp only [List.mapM_cons, h a (by simp), mapM_all f g l fun x hx => h x (by simp [hx])]
    rfl
theorem key_u {d : Nat} {x : Int} (h : U x) : Tryd.prog.keyLits (d + 1) 22 [.int .u64 x] = some [.int .u64 x] := by
  unfold Program.keyLits
  rw [Tryd.underlying22]
  simp [wf_U h]
theorem key_i {d : Nat} {x : Int} (h : I64 x) : Tryd.prog.keyLits (d + 1) 3 [.int .i64 x] = some [.int .i64 x] := by
  unfold Program.keyLits
  rw [Tryd.underlying3]
  simp [wf_I h]
theorem key_b {d : Nat} {x : Bool} : Tryd.prog.keyLits (d + 1) 4 [.bool x] = some [.bool x] := by
  unfold Program.keyLits
  rw [Tryd.underlying4]
theorem chunk {n : Nat} (F : Nat → Value) (o c : Nat) (h : o + c ≤ n) : (((List.range n).map F).drop o).take c = (List.range c).map fun j => F (o + j) := by
  apply List.ext_getElem?
  intro j
  by_cases hj : j < c
  · rw [List.getElem?_take, if_pos hj, List.getElem?_drop, List.getElem?_map, List.getElem?_range (by omega), List.getElem?_map, List.getElem?_range hj]
    rfl
  · rw [List.getElem?_take, if_neg hj, List.getElem?_eq_none (by simp; omega)]
theorem cells_u : Tryd.prog.cellsOf 22 = 1 := by kernel_rfl
theorem cells_i : Tryd.prog.cellsOf 3 = 1 := by kernel_rfl
theorem cells_b : Tryd.prog.cellsOf 4 = 1 := by kernel_rfl
theorem cells_X : Tryd.prog.cellsOf 23 = 32 := by kernel_rfl
theorem cells_C : Tryd.prog.cellsOf 24 = 29 := by kernel_rfl
theorem cells_S : Tryd.prog.cellsOf 26 = 65 := by kernel_rfl
theorem key_row {d : Nat} {T : TypeId} {n : Nat} (hu : Tryd.prog.underlying T = some (.array n 22)) (hc : Tryd.prog.cellsOf T = n) (X : Nat → Int) (hX : ∀ i, i < n → U (X i)) :
    Tryd.prog.keyLits (d + 2) T ((List.range n).map fun i => .int .u64 (X i)) = some ((List.range n).map fun i => [Lit.int .u64 (X i)]).flatten := by
  rw [Program.keyLits.eq_def]
  simp only [hu]
  rw [if_pos (by rw [List.length_map, List.length_range, hc]), mapM_all _ (fun i => [Lit.int .u64 (X i)])]
  · rfl
  · intro i hi
    have hi' : i < n := List.mem_range.1 hi
    rw [cells_u, Nat.mul_one, chunk _ i 1 (by omega)]
    simp only [List.range_one, List.map_cons, List.map_nil, Nat.add_zero]
    exact key_u (hX i hi')
theorem key_state {d : Nat} {S : StM} (h : S.Ok) : ∃ L, Tryd.prog.keyLits (d + 3) 26 ((List.range 65).map (stF S)) = some L := by
  have e0 : Tryd.prog.keyLits (d + 2) 23 ((((List.range 65).map (stF S)).drop 0).take 32) = some ((List.range 32).map fun i => [Lit.int .u64 (S.X i)]).flatten := by
    rw [chunk _ 0 32 (by omega)]
    have e : ((List.range 32).map fun j => stF S (0 + j)) = (List.range 32).map fun i => .int .u64 (S.X i) := List.map_congr_left fun i hi => by
      have hi' : i < 32 := List.mem_range.1 hi
      rw [Nat.zero_add]; unfold stF; rw [if_pos hi']
    rw [e]
    exact key_row Tryd.underlying23 cells_X S.X h.X
  have e1 : Tryd.prog.keyLits (d + 2) 22 ((((List.range 65).map (stF S)).drop 32).take 1) = some [Lit.int .u64 S.pc] := by
    rw [chunk _ 32 1 (by omega)]; exact key_u h.pc
  have e2 : Tryd.prog.keyLits (d + 2) 3 ((((List.range 65).map (stF S)).drop 33).take 1) = some [Lit.int .i64 S.lvl] := by
    rw [chunk _ 33 1 (by omega)]; exact key_i h.lvl
  have e3 : Tryd.prog.keyLits (d + 2) 4 ((((List.range 65).map (stF S)).drop 34).take 1) = some [Lit.bool S.v] := by
    rw [chunk _ 34 1 (by omega)]; exact key_b
  have e4 : Tryd.prog.keyLits (d + 2) 24 ((((List.range 65).map (stF S)).drop 35).take 29) = some ((List.range 29).map fun i => [Lit.int .u64 (S.C i)]).flatten := by
    rw [chunk _ 35 29 (by omega)]
    have e : ((List.range 29).map fun j => stF S (35 + j)) = (List.range 29).map fun i => .int .u64 (S.C i) := List.map_congr_left fun i hi => stF_C S (List.mem_range.1 hi)
    rw [e]
    exact key_row Tryd.underlying24 cells_C S.C h.C
  have e5 : Tryd.prog.keyLits (d + 2) 22 ((((List.range 65).map (stF S)).drop 64).take 1) = some [Lit.int .u64 S.done] := by
    rw [chunk _ 64 1 (by omega)]; exact key_u h.done
  rw [Program.keyLits.eq_def]
  simp only [Tryd.underlying26]
  rw [if_pos ⟨by rw [List.length_map, List.length_range, cells_S], by kernel_rfl⟩]
  simp only [List.mapM_cons, List.mapM_nil, cells_X, cells_u, cells_i, cells_b, cells_C, e0, e1, e2, e3, e4, e5, Option.pure_def, Option.bind_eq_bind, Option.bind_some, Option.map_some]
  exact ⟨_, rfl⟩
/-- A state is equal to itself. -/
theorem eq_state {S : StM} (h : S.Ok) (w : World) : (Op.equalIn 10000 26 (.agg (rowOf 65 (stF S))) (.agg (rowOf 65 (stF S)))).run Tryd.prog w = .ok true w := by
  obtain ⟨L, hL⟩ := key_state (d := 0) h
  have hf : (Value.agg (rowOf 65 (stF S))).formed Tryd.prog 26 = true := by simp [Value.formed, Tryd.underlying26, rowOf_size, cells_S]
  obtain ⟨r, hr, hi⟩ := run_equalIn_deep (P := Tryd.prog) 9997 3 26 (by kernel_rfl) w _ _ _ _ L L hf hf hL hL
  rw [hi.2 rfl] at hr
  exact hr
end Go.Proofs.YtkijdogckfpdpaaDoor
