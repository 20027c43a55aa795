/-
  What package encode's kindOf answers: its loop over the listed table, walked.
-/
import Derived.Test.YtdogjmimjjmmaaaDoorRuleOf
namespace Go.Proofs.YtdogjmimjjmmaaaDoor
open Go.RowKit
def kL : List Value := flatD 4 (Rows.laid_sallyport_encode_kinds (H := Unit))
def fL : List Value := flatD 4 (Rows.laid_sallyport_encode_f3s (H := Unit))
def tL : List Value := flatD 4 (Rows.laid_sallyport_encode_tops (H := Unit))
def TabK (w : World) : Prop := ∀ i v, kL[i]? = some v → w.cell? ⟨2, i, none⟩ = some v
def TabF (w : World) : Prop := ∀ i v, fL[i]? = some v → w.cell? ⟨0, i, none⟩ = some v
def TabT (w : World) : Prop := ∀ i v, tL[i]? = some v → w.cell? ⟨1, i, none⟩ = some v
theorem TabK.grown {a b : World} (h : TabK a) (g : Grown a b) : TabK b := fun i v hi => Grown.cell g (h i v hi)
theorem TabF.grown {a b : World} (h : TabF a) (g : Grown a b) : TabF b := fun i v hi => Grown.cell g (h i v hi)
theorem TabT.grown {a b : World} (h : TabT a) (g : Grown a b) : TabT b := fun i v hi => Grown.cell g (h i v hi)
def kN (k j : Nat) : Int := intOf (kL.getD (4 * k + j) (.int .i64 0))
def kR (k : Nat) : Array Value := #[.int .i64 (kN k 0), .int .i64 (kN k 1), .int .u8 (kN k 2), .int .i64 (kN k 3)]
def f3E (op : Int) : Int := intOf (fL.getD op.toNat (.int .u8 0))
def topE (op : Int) : Int := intOf (tL.getD op.toNat (.int .u16 0))
theorem k_len : kL.length = 76 := by decide +kernel
theorem k_row0 (w : World) : (Instr.index 85 (.agg kL.toArray) (.int .i64 0)).run Tryd.prog w = .ok (.agg (kR 0)) w := by kernel_rfl
theorem k_row1 (w : World) : (Instr.index 85 (.agg kL.toArray) (.int .i64 1)).run Tryd.prog w = .ok (.agg (kR 1)) w := by kernel_rfl
theorem k_row2 (w : World) : (Instr.index 85 (.agg kL.toArray) (.int .i64 2)).run Tryd.prog w = .ok (.agg (kR 2)) w := by kernel_rfl
theorem k_row3 (w : World) : (Instr.index 85 (.agg kL.toArray) (.int .i64 3)).run Tryd.prog w = .ok (.agg (kR 3)) w := by kernel_rfl
theorem k_row4 (w : World) : (Instr.index 85 (.agg kL.toArray) (.int .i64 4)).run Tryd.prog w = .ok (.agg (kR 4)) w := by kernel_rfl
theorem k_row5 (w : World) : (Instr.index 85 (.agg kL.toArray) (.int .i64 5)).run Tryd.prog w = .ok (.agg (kR 5)) w := by kernel_rfl
theorem k_row6 (w : World) : (Instr.index 85 (.agg kL.toArray) (.int .i64 6)).run Tryd.prog w = .ok (.agg (kR 6)) w := by kernel_rfl
theorem k_row7 (w : World) : (Instr.index 85 (.agg kL.toArray) (.int .i64 7)).run Tryd.prog w = .ok (.agg (kR 7)) w := by kernel_rfl
theorem k_row8 (w : World) : (Instr.index 85 (.agg kL.toArray) (.int .i64 8)).run Tryd.prog w = .ok (.agg (kR 8)) w := by kernel_rfl
theorem k_row9 (w : World) : (Instr.index 85 (.agg kL.toArray) (.int .i64 9)).run Tryd.prog w = .ok (.agg (kR 9)) w := by kernel_rfl
theorem k_row10 (w : World) : (Instr.index 85 (.agg kL.toArray) (.int .i64 10)).run Tryd.prog w = .ok (.agg (kR 10)) w := by kernel_rfl
theorem k_row11 (w : World) : (Instr.index 85 (.agg kL.toArray) (.int .i64 11)).run Tryd.prog w = .ok (.agg (kR 11)) w := by kernel_rfl
theorem k_row12 (w : World) : (Instr.index 85 (.agg kL.toArray) (.int .i64 12)).run Tryd.prog w = .ok (.agg (kR 12)) w := by kernel_rfl
theorem k_row13 (w : World) : (Instr.index 85 (.agg kL.toArray) (.int .i64 13)).run Tryd.prog w = .ok (.agg (kR 13)) w := by kernel_rfl
theorem k_row14 (w : World) : (Instr.index 85 (.agg kL.toArray) (.int .i64 14)).run Tryd.prog w = .ok (.agg (kR 14)) w := by kernel_rfl
theorem k_row15 (w : World) : (Instr.index 85 (.agg kL.toArray) (.int .i64 15)).run Tryd.prog w = .ok (.agg (kR 15)) w := by kernel_rfl
theorem k_row16 (w : World) : (Instr.index 85 (.agg kL.toArray) (.int .i64 16)).run Tryd.prog w = .ok (.agg (kR 16)) w := by kernel_rfl
theorem k_row17 (w : World) : (Instr.index 85 (.agg kL.toArray) (.int .i64 17)).run Tryd.prog w = .ok (.agg (kR 17)) w := by kernel_rfl
theorem k_row18 (w : World) : (Instr.index 85 (.agg kL.toArray) (.int .i64 18)).run Tryd.prog w = .ok (.agg (kR 18)) w := by kernel_rfl
theorem k_row (k : Nat) (hk : k < 19) (w : World) : (Instr.index 85 (.agg kL.toArray) (.int .i64 (k : Int))).run Tryd.prog w = .ok (.agg (kR k)) w := by
  have : k = 0 ∨ k = 1 ∨ k = 2 ∨ k = 3 ∨ k = 4 ∨ k = 5 ∨ k = 6 ∨ k = 7 ∨ k = 8 ∨ k = 9 ∨ k = 10 ∨ k = 11 ∨ k = 12 ∨ k = 13 ∨ k = 14 ∨ k = 15 ∨ k = 16 ∨ k = 17 ∨ k = 18 := by omega
  rcases this with rfl | rfl | rfl | rfl | rfl | rfl | rfl | rfl | rfl | rfl | rfl | rfl | rfl | rfl | rfl | rfl | rfl | rfl | rfl
  · exact k_row0 w
  · exact k_row1 w
  · exact k_row2 w
  · exact k_row3 w
  · exact k_row4 w
  · exact k_row5 w
  · exact k_row6 w
  · exact k_row7 w
  · exact k_row8 w
  · exact k_row9 w
  · exact k_row10 w
  · exact k_row11 w
  · exact k_row12 w
  · exact k_row13 w
  · exact k_row14 w
  · exact k_row15 w
  · exact k_row16 w
  · exact k_row17 w
  · exact k_row18 w
theorem sizeK : (Tryd.prog.info? 85).map (·.size) = some kL.length := by rw [k_len]; kernel_rfl
theorem f_cells : ∀ k : Fin 70, fL[k.val]? = some (.int .u8 (f3E (k.val : Int))) := by
  have h : ∀ k : Fin 70, (match fL[k.val]? with | some (.int .u8 n) => n == f3E (k.val : Int) | _ => false) = true := by decide +kernel
  intro k
  have e := h k
  split at e
  · next n hn => rw [hn, eq_of_beq e]
  · cases e
theorem t_cells : ∀ k : Fin 70, tL[k.val]? = some (.int .u16 (topE (k.val : Int))) := by
  have h : ∀ k : Fin 70, (match tL[k.val]? with | some (.int .u16 n) => n == topE (k.val : Int) | _ => false) = true := by decide +kernel
  intro k
  have e := h k
  split at e
  · next n hn => rw [hn, eq_of_beq e]
  · cases e
theorem TabF.cell {w : World} (h : TabF w) (k : Nat) (hk : k < 70) : w.cell? ⟨0, k, none⟩ = some (.int .u8 (f3E (k : Int))) := h k _ (f_cells ⟨k, hk⟩)
theorem TabT.cell {w : World} (h : TabT w) (k : Nat) (hk : k < 70) : w.cell? ⟨1, k, none⟩ = some (.int .u16 (topE (k : Int))) := h k _ (t_cells ⟨k, hk⟩)
/-- Which kind an operation is of. -/
def kOf (op : Int) : Nat := (List.range 19).findIdx (fun k => decide (kN k 0 ≤ op ∧ op ≤ kN k 1))
def opcE (op : Int) : Int := kN (kOf op) 2
def prtE (op : Int) : Int := kN (kOf op) 3
theorem k_ops : ∀ op : Fin 70, 1 ≤ op.val → kOf op.val < 19 ∧ kN (kOf op.val) 0 ≤ op.val ∧ (op.val : Int) ≤ kN (kOf op.val) 1 := by decide +kernel
theorem k_no : ∀ k : Fin 19, ∀ op : Fin 70, 1 ≤ op.val → k.val < kOf op.val → ¬ (kN k.val 0 ≤ op.val ∧ (op.val : Int) ≤ kN k.val 1) := by decide +kernel
end Go.Proofs.YtdogjmimjjmmaaaDoor
namespace Go.Proofs.YtdogjmimjjmmaaaDoor
open Go.RowKit
theorem ones4 (a b c d : Int) : (#[.int .i64 a, .int .i64 b, .int .u8 c, .int .i64 d] : Array Value).all (·.oneCell') = true := by simp [Value.oneCell']
theorem sizeKd (a b c d : Value) : (Tryd.prog.info? 55).map (·.size) = some (#[a, b, c, d] : Array Value).size := by kernel_rfl
set_option maxRecDepth 100000 in
set_option maxHeartbeats 4000000 in
theorem kind_hit (op : Int) (n : Nat) (hn : n < 19) (hno : ∀ j : Nat, j < n → ¬ (kN j 0 ≤ op ∧ op ≤ kN j 1)) (h0 : kN n 0 ≤ op) (h1 : op ≤ kN n 1) (w : World) (hT : TabK w) :
    Calls Tryd.prog 27 #[.int .i64 op] w fun e w' => e = .returned (.agg #[.int .i64 (kN n 0), .int .i64 (kN n 1), .int .u8 (kN n 2), .int .i64 (kN n 3)]) ∧ Grown w w' := by
  go_enter Tryd.func27, Tryd.ntmps27
  go_wp2_with (refine wpList_load_list rfl 85 _ rfl 2 rfl kL _ (hT.grown ((Grown.refl w).alloc _ _)) Tryd.underlying85 rfl sizeK ?_)
  go_loopw [6] (fun i wr => ∃ k : Nat, k ≤ n ∧ i = .int .i64 k ∧ Grown (w.alloc (.cells #[.int .i64 0, .int .i64 0, .int .u8 0, .int .i64 0] 55)) wr) (fun i _ => n - (intOf i).toNat)
  case atStart => exact ⟨0, by omega, rfl, Grown.refl _⟩
  case round =>
    obtain ⟨k, hk1, rfl, hg⟩ := hrel
    have hx := k_row k (by omega)
    have hk19 : (k : Int) < 19 := by omega
    unfold kR at hx
    by_cases hlt : k < n
    · have hm := hno k hlt
      by_cases hm0 : kN k 0 ≤ op
      · have hm1 : ¬ op ≤ kN k 1 := fun h => hm ⟨hm0, h⟩
        go_wp2
        refine ⟨⟨k + 1, by omega, by simp, hg.alloc _ _⟩, ?_⟩
        simp [intOf]
        omega
      · go_wp2
        refine ⟨⟨k + 1, by omega, by simp, hg.alloc _ _⟩, ?_⟩
        simp [intOf]
        omega
    · obtain rfl : k = n := by omega
      go_wp2_with (refine wpList_store_row rfl 55 _ _ rfl w.heap.size #[.int .i64 (kN k 0), .int .i64 (kN k 1), .int .u8 (kN k 2), .int .i64 (kN k 3)] rfl rfl 55 _ (Grown.blockAt (hg.alloc _ _) (heap_alloc_last w _)) (sizeKd _ _ _ _) rfl (ones4 _ _ _ _) ?_)
      have hB := Grown.blockAt (hg.alloc #[.int .i64 (kN k 0), .int .i64 (kN k 1), .int .u8 (kN k 2), .int .i64 (kN k 3)] 55) (heap_alloc_last w _)
      refine bodyPost_ret ?_ rfl ⟨rfl, Grown.rowSet (Grown.trans' ((Grown.refl _).alloc _ _) (hg.alloc _ _)) (Nat.le_refl _) hB⟩
      exact results_cell_row rfl _ _ w.heap.size 55 _ (0, 0) _ rfl (setRow_heap _ _ _ _ _ _ hB) Tryd.underlying55 rfl (sizeKd _ _ _ _)
theorem kind_any (op : Int) (h0 : 1 ≤ op) (h1 : op ≤ 69) (w : World) (hT : TabK w) :
    Calls Tryd.prog 27 #[.int .i64 op] w fun e w' => e = .returned (.agg #[.int .i64 (kN (kOf op) 0), .int .i64 (kN (kOf op) 1), .int .u8 (opcE op), .int .i64 (prtE op)]) ∧ Grown w w' := by
  obtain ⟨n, rfl⟩ := Int.eq_ofNat_of_zero_le (by omega : 0 ≤ op)
  have hn : n < 70 := by omega
  obtain ⟨a, b, c⟩ := k_ops ⟨n, hn⟩ (by simp only; omega)
  simp only at a b c
  exact kind_hit n (kOf n) a (fun j hj => k_no ⟨j, by omega⟩ ⟨n, hn⟩ (by simp only; omega) hj) b c w hT
end Go.Proofs.YtdogjmimjjmmaaaDoor
