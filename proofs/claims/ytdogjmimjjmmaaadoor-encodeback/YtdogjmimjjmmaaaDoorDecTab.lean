/-
  Package decode's listed tables: their cells, one behind the other, and how the walks read them.
-/
import Derived.Test.YtdogjmimjjmmaaaDoorLaid
import Derived.Test.YtdogjmimjjmmaaaDoorRefInsn
import Derived.Test.YtdogjmimjjmmaaaDoorRuleOf
namespace Go.Proofs.YtdogjmimjjmmaaaDoor
open Go.RowKit
/-- The cells of the table of groups. -/
def dgL : List Value := flatD 4 (Rows.laid_sallyport_decode_groups (H := Unit))
/-- The cells of the table of heads. -/
def hdL : List Value := flatD 4 (Rows.laid_sallyport_decode_heads (H := Unit))
def TabG (w : World) : Prop := ∀ i v, dgL[i]? = some v → w.cell? ⟨3, i, none⟩ = some v
def TabH (w : World) : Prop := ∀ i v, hdL[i]? = some v → w.cell? ⟨4, i, none⟩ = some v
theorem TabG.grown {a b : World} (h : TabG a) (g : Grown a b) : TabG b := fun i v hi => Grown.cell g (h i v hi)
theorem TabH.grown {a b : World} (h : TabH a) (g : Grown a b) : TabH b := fun i v hi => Grown.cell g (h i v hi)
def dN (k j : Nat) : Int := intOf (dgL.getD (3 * k + j) (.int .i64 0))
def dR (k : Nat) : Array Value := #[.int .u32 (dN k 0), .int .i64 (dN k 1), .int .i64 (dN k 2)]
def hdI (op : Int) : Int := intOf (hdL.getD op.toNat (.int .u32 0))
theorem d_len : dgL.length = 33 := by decide +kernel
theorem h_len : hdL.length = 70 := by decide +kernel
theorem d_row0 (w : World) : (Instr.index 98 (.agg dgL.toArray) (.int .i64 0)).run Tryd.prog w = .ok (.agg (dR 0)) w := by kernel_rfl
theorem d_row1 (w : World) : (Instr.index 98 (.agg dgL.toArray) (.int .i64 1)).run Tryd.prog w = .ok (.agg (dR 1)) w := by kernel_rfl
theorem d_row2 (w : World) : (Instr.index 98 (.agg dgL.toArray) (.int .i64 2)).run Tryd.prog w = .ok (.agg (dR 2)) w := by kernel_rfl
theorem d_row3 (w : World) : (Instr.index 98 (.agg dgL.toArray) (.int .i64 3)).run Tryd.prog w = .ok (.agg (dR 3)) w := by kernel_rfl
theorem d_row4 (w : World) : (Instr.index 98 (.agg dgL.toArray) (.int .i64 4)).run Tryd.prog w = .ok (.agg (dR 4)) w := by kernel_rfl
theorem d_row5 (w : World) : (Instr.index 98 (.agg dgL.toArray) (.int .i64 5)).run Tryd.prog w = .ok (.agg (dR 5)) w := by kernel_rfl
theorem d_row6 (w : World) : (Instr.index 98 (.agg dgL.toArray) (.int .i64 6)).run Tryd.prog w = .ok (.agg (dR 6)) w := by kernel_rfl
theorem d_row7 (w : World) : (Instr.index 98 (.agg dgL.toArray) (.int .i64 7)).run Tryd.prog w = .ok (.agg (dR 7)) w := by kernel_rfl
theorem d_row8 (w : World) : (Instr.index 98 (.agg dgL.toArray) (.int .i64 8)).run Tryd.prog w = .ok (.agg (dR 8)) w := by kernel_rfl
theorem d_row9 (w : World) : (Instr.index 98 (.agg dgL.toArray) (.int .i64 9)).run Tryd.prog w = .ok (.agg (dR 9)) w := by kernel_rfl
theorem d_row10 (w : World) : (Instr.index 98 (.agg dgL.toArray) (.int .i64 10)).run Tryd.prog w = .ok (.agg (dR 10)) w := by kernel_rfl
theorem d_row (k : Nat) (hk : k < 11) (w : World) : (Instr.index 98 (.agg dgL.toArray) (.int .i64 (k : Int))).run Tryd.prog w = .ok (.agg (dR k)) w := by
  have : k = 0 ∨ k = 1 ∨ k = 2 ∨ k = 3 ∨ k = 4 ∨ k = 5 ∨ k = 6 ∨ k = 7 ∨ k = 8 ∨ k = 9 ∨ k = 10 := by omega
  rcases this with rfl | rfl | rfl | rfl | rfl | rfl | rfl | rfl | rfl | rfl | rfl
  · exact d_row0 w
  · exact d_row1 w
  · exact d_row2 w
  · exact d_row3 w
  · exact d_row4 w
  · exact d_row5 w
  · exact d_row6 w
  · exact d_row7 w
  · exact d_row8 w
  · exact d_row9 w
  · exact d_row10 w
theorem sizeD : (Tryd.prog.info? 98).map (·.size) = some dgL.length := by rw [d_len]; kernel_rfl
theorem h_cells : ∀ k : Fin 70, hdL[k.val]? = some (.int .u32 (hdI (k.val : Int))) := by
  have h : ∀ k : Fin 70, (match hdL[k.val]? with | some (.int .u32 n) => n == hdI (k.val : Int) | _ => false) = true := by decide +kernel
  intro k
  have e := h k
  split at e
  · next n hn => rw [hn, eq_of_beq e]
  · cases e
theorem TabH.cell {w : World} (h : TabH w) (k : Nat) (hk : k < 70) : w.cell? ⟨4, k, none⟩ = some (.int .u32 (hdI (k : Int))) := h k _ (h_cells ⟨k, hk⟩)
/-- Which group an operation is in. -/
def dOf (op : Int) : Nat := (List.range 11).findIdx (fun k => decide (dN k 1 ≤ op ∧ op ≤ dN k 2))
/-- The bits that tell an operation. -/
def tlI (op : Int) : Int := dN (dOf op) 0
theorem d_ops : ∀ op : Fin 70, 1 ≤ op.val → dOf op.val < 11 ∧ dN (dOf op.val) 1 ≤ op.val ∧ (op.val : Int) ≤ dN (dOf op.val) 2 := by decide +kernel
theorem d_group : ∀ k : Fin 11, 1 ≤ dN k.val 1 ∧ dN k.val 1 ≤ dN k.val 2 ∧ dN k.val 2 ≤ 69 ∧ (k.val = 0 → dN k.val 1 = 1) ∧ (k.val = 10 → dN k.val 2 = 69) := by decide +kernel
theorem d_in : ∀ k : Fin 11, ∀ op : Fin 70, dN k.val 1 ≤ op.val → (op.val : Int) ≤ dN k.val 2 → dOf op.val = k.val := by decide +kernel
theorem d_mono : ∀ k : Fin 11, ∀ op : Fin 70, 1 ≤ op.val → k.val < dOf op.val → dN k.val 2 < op.val := by decide +kernel
/-- Whether the word has what tells the operation. -/
def tellB (op v : Int) : Bool := bits .and .u32 v (tlI op) == hdI op
end Go.Proofs.YtdogjmimjjmmaaaDoor
