/-
  What package insn's ruleOf answers: its loop over the listed table, walked for every number.
-/
import Derived.Test.YthmanpfooegbcaaDoorLaid
import Derived.Test.YthmanpfooegbcaaDoorRowIs
import Derived.Laws.ResultCell
import Derived.Deep.WholeRow
namespace Go.Proofs.YthmanpfooegbcaaDoor
open Go.RowKit
/-- The cells of the table, one behind the other. -/
def gL : List Value := flatD 4 (Rows.laid_sallyport_insn_groups (H := Unit))
def TabI (w : World) : Prop := ∀ i v, gL[i]? = some v → w.cell? ⟨5, i, none⟩ = some v
theorem TabI.grown {a b : World} (h : TabI a) (g : Grown a b) : TabI b := fun i v hi => Grown.cell g (h i v hi)
def gN (k j : Nat) : Int := intOf (gL.getD (7 * k + j) (.int .i64 0))
def gR (k : Nat) : Array Value := #[.int .i64 (gN k 0), .int .i64 (gN k 1), .int .i64 (gN k 2), .int .i64 (gN k 3), .int .i64 (gN k 4), .int .i64 (gN k 5), .int .i64 (gN k 6)]
theorem g_len : gL.length = 133 := by decide +kernel
theorem g_row0 (w : World) : (Instr.index 83 (.agg gL.toArray) (.int .i64 0)).run Tryd.prog w = .ok (.agg (gR 0)) w := by kernel_rfl
theorem g_row1 (w : World) : (Instr.index 83 (.agg gL.toArray) (.int .i64 1)).run Tryd.prog w = .ok (.agg (gR 1)) w := by kernel_rfl
theorem g_row2 (w : World) : (Instr.index 83 (.agg gL.toArray) (.int .i64 2)).run Tryd.prog w = .ok (.agg (gR 2)) w := by kernel_rfl
theorem g_row3 (w : World) : (Instr.index 83 (.agg gL.toArray) (.int .i64 3)).run Tryd.prog w = .ok (.agg (gR 3)) w := by kernel_rfl
theorem g_row4 (w : World) : (Instr.index 83 (.agg gL.toArray) (.int .i64 4)).run Tryd.prog w = .ok (.agg (gR 4)) w := by kernel_rfl
theorem g_row5 (w : World) : (Instr.index 83 (.agg gL.toArray) (.int .i64 5)).run Tryd.prog w = .ok (.agg (gR 5)) w := by kernel_rfl
theorem g_row6 (w : World) : (Instr.index 83 (.agg gL.toArray) (.int .i64 6)).run Tryd.prog w = .ok (.agg (gR 6)) w := by kernel_rfl
theorem g_row7 (w : World) : (Instr.index 83 (.agg gL.toArray) (.int .i64 7)).run Tryd.prog w = .ok (.agg (gR 7)) w := by kernel_rfl
theorem g_row8 (w : World) : (Instr.index 83 (.agg gL.toArray) (.int .i64 8)).run Tryd.prog w = .ok (.agg (gR 8)) w := by kernel_rfl
theorem g_row9 (w : World) : (Instr.index 83 (.agg gL.toArray) (.int .i64 9)).run Tryd.prog w = .ok (.agg (gR 9)) w := by kernel_rfl
theorem g_row10 (w : World) : (Instr.index 83 (.agg gL.toArray) (.int .i64 10)).run Tryd.prog w = .ok (.agg (gR 10)) w := by kernel_rfl
theorem g_row11 (w : World) : (Instr.index 83 (.agg gL.toArray) (.int .i64 11)).run Tryd.prog w = .ok (.agg (gR 11)) w := by kernel_rfl
theorem g_row12 (w : World) : (Instr.index 83 (.agg gL.toArray) (.int .i64 12)).run Tryd.prog w = .ok (.agg (gR 12)) w := by kernel_rfl
theorem g_row13 (w : World) : (Instr.index 83 (.agg gL.toArray) (.int .i64 13)).run Tryd.prog w = .ok (.agg (gR 13)) w := by kernel_rfl
theorem g_row14 (w : World) : (Instr.index 83 (.agg gL.toArray) (.int .i64 14)).run Tryd.prog w = .ok (.agg (gR 14)) w := by kernel_rfl
theorem g_row15 (w : World) : (Instr.index 83 (.agg gL.toArray) (.int .i64 15)).run Tryd.prog w = .ok (.agg (gR 15)) w := by kernel_rfl
theorem g_row16 (w : World) : (Instr.index 83 (.agg gL.toArray) (.int .i64 16)).run Tryd.prog w = .ok (.agg (gR 16)) w := by kernel_rfl
theorem g_row17 (w : World) : (Instr.index 83 (.agg gL.toArray) (.int .i64 17)).run Tryd.prog w = .ok (.agg (gR 17)) w := by kernel_rfl
theorem g_row18 (w : World) : (Instr.index 83 (.agg gL.toArray) (.int .i64 18)).run Tryd.prog w = .ok (.agg (gR 18)) w := by kernel_rfl
theorem g_row (k : Nat) (hk : k < 19) (w : World) : (Instr.index 83 (.agg gL.toArray) (.int .i64 (k : Int))).run Tryd.prog w = .ok (.agg (gR k)) w := by
  have : k = 0 ∨ k = 1 ∨ k = 2 ∨ k = 3 ∨ k = 4 ∨ k = 5 ∨ k = 6 ∨ k = 7 ∨ k = 8 ∨ k = 9 ∨ k = 10 ∨ k = 11 ∨ k = 12 ∨ k = 13 ∨ k = 14 ∨ k = 15 ∨ k = 16 ∨ k = 17 ∨ k = 18 := by omega
  rcases this with rfl | rfl | rfl | rfl | rfl | rfl | rfl | rfl | rfl | rfl | rfl | rfl | rfl | rfl | rfl | rfl | rfl | rfl | rfl
  · exact g_row0 w
  · exact g_row1 w
  · exact g_row2 w
  · exact g_row3 w
  · exact g_row4 w
  · exact g_row5 w
  · exact g_row6 w
  · exact g_row7 w
  · exact g_row8 w
  · exact g_row9 w
  · exact g_row10 w
  · exact g_row11 w
  · exact g_row12 w
  · exact g_row13 w
  · exact g_row14 w
  · exact g_row15 w
  · exact g_row16 w
  · exact g_row17 w
  · exact g_row18 w
theorem sizeG : (Tryd.prog.info? 83).map (·.size) = some gL.length := by rw [g_len]; kernel_rfl
theorem ones5 (a b c d e : Int) : (#[.int .i64 a, .int .i64 b, .int .i64 c, .int .i64 d, .int .i64 e] : Array Value).all (·.oneCell') = true := by simp [Value.oneCell']
theorem sizeR (a b c d e : Value) : (Tryd.prog.info? 70).map (·.size) = some (#[a, b, c, d, e] : Array Value).size := by kernel_rfl
theorem Grown.rowSet {W w' : World} (h : Grown W w') {g : Nat} (hg : W.heap.size ≤ g) {old cs : Array Value} {t : TypeId} {fr : Nat × Nat} (ho : w'.heap[g]? = some (.cells old t fr)) : Grown W (w'.setRow g cs) := by
  obtain ⟨⟨h1, h2, h3⟩, hf, hs⟩ := h
  refine ⟨⟨h1, h2, fun i hi => ?_⟩, fun x => ?_, by simpa using hs⟩
  · rw [setRow_other w' g i cs (by omega)]
    exact h3 i hi
  · rw [← hf x]
    unfold World.frozen?
    by_cases e : x.block = g
    · rw [e, setRow_heap w' g old cs t fr ho, ho]
    · rw [setRow_other w' g x.block cs e]
theorem Grown.blockAt {a b : World} (h : Grown a b) {i : Nat} {c : Array Value} {t : TypeId} {fr : Nat × Nat} (hi : a.heap[i]? = some (.cells c t fr)) : b.heap[i]? = some (.cells c t fr) := by
  have hlt : i < a.heap.size := (Array.getElem?_eq_some_iff.1 hi).1
  have h3 := h.1.2.2 i hlt
  rw [hi] at h3
  cases hb : b.heap[i]? with
  | none => rw [hb] at h3; simp at h3
  | some o =>
    cases o <;> rw [hb] at h3 <;> simp at h3
    case cells c' t' fr' =>
      obtain ⟨rfl, rfl, hsz, hc⟩ := h3
      have : c' = c := Array.ext_getElem? (fun j => hc j)
      rw [this]
set_option maxRecDepth 100000 in
set_option maxHeartbeats 4000000 in
theorem rule_hit (op : Int) (n : Nat) (hn : n < 19) (hno : ∀ j : Nat, j < n → ¬ (gN j 0 ≤ op ∧ op ≤ gN j 1)) (h0 : gN n 0 ≤ op) (h1 : op ≤ gN n 1) (w : World) (hT : TabI w) :
    Calls Tryd.prog 41 #[.int .i64 op] w fun e w' => e = .returned (.agg #[.int .i64 (gN n 2), .int .i64 (gN n 3), .int .i64 (gN n 4), .int .i64 (gN n 5), .int .i64 (gN n 6)]) ∧ Grown w w' := by
  go_enter Tryd.func41, Tryd.ntmps41
  go_wp2_with (refine wpList_load_list rfl 83 _ rfl 5 rfl gL _ (hT.grown ((Grown.refl w).alloc _ _)) Tryd.underlying83 rfl sizeG ?_)
  go_loopw [6] (fun i wr => ∃ k : Nat, k ≤ n ∧ i = .int .i64 k ∧ Grown (w.alloc (.cells #[.int .i64 0, .int .i64 0, .int .i64 0, .int .i64 0, .int .i64 0] 70)) wr) (fun i _ => n - (intOf i).toNat)
  case atStart => exact ⟨0, by omega, rfl, Grown.refl _⟩
  case round =>
    obtain ⟨k, hk1, rfl, hg⟩ := hrel
    have hx := g_row k (by omega)
    have hk19 : (k : Int) < 19 := by omega
    unfold gR at hx
    by_cases hlt : k < n
    · have hm := hno k hlt
      by_cases hm0 : gN k 0 ≤ op
      · have hm1 : ¬ op ≤ gN k 1 := fun h => hm ⟨hm0, h⟩
        go_wp2
        refine ⟨⟨k + 1, by omega, by simp, hg.alloc _ _⟩, ?_⟩
        simp [intOf]
        omega
      · go_wp2
        refine ⟨⟨k + 1, by omega, by simp, hg.alloc _ _⟩, ?_⟩
        simp [intOf]
        omega
    · obtain rfl : k = n := by omega
      go_wp2_with (refine wpList_store_row rfl 70 _ _ rfl w.heap.size #[.int .i64 (gN k 2), .int .i64 (gN k 3), .int .i64 (gN k 4), .int .i64 (gN k 5), .int .i64 (gN k 6)] rfl rfl 70 _ (Grown.blockAt (hg.alloc _ _) (heap_alloc_last w _)) (sizeR _ _ _ _ _) rfl (ones5 _ _ _ _ _) ?_)
      have hB := Grown.blockAt (hg.alloc #[.int .i64 (gN k 0), .int .i64 (gN k 1), .int .i64 (gN k 2), .int .i64 (gN k 3), .int .i64 (gN k 4), .int .i64 (gN k 5), .int .i64 (gN k 6)] 82) (heap_alloc_last w _)
      refine bodyPost_ret ?_ rfl ⟨rfl, Grown.rowSet (Grown.trans' ((Grown.refl _).alloc _ _) (hg.alloc _ _)) (Nat.le_refl _) hB⟩
      exact results_cell_row rfl _ _ w.heap.size 70 _ (0, 0) _ rfl (setRow_heap _ _ _ _ _ _ hB) Tryd.underlying70 rfl (sizeR _ _ _ _ _)
set_option maxRecDepth 100000 in
set_option maxHeartbeats 4000000 in
theorem rule_none (op : Int) (hno : ∀ j : Nat, j < 19 → ¬ (gN j 0 ≤ op ∧ op ≤ gN j 1)) (w : World) (hT : TabI w) :
    Calls Tryd.prog 41 #[.int .i64 op] w fun e w' => e = .returned (.agg #[.int .i64 0, .int .i64 0, .int .i64 0, .int .i64 0, .int .i64 0]) ∧ Grown w w' := by
  go_enter Tryd.func41, Tryd.ntmps41
  go_wp2_with (refine wpList_load_list rfl 83 _ rfl 5 rfl gL _ (hT.grown ((Grown.refl w).alloc _ _)) Tryd.underlying83 rfl sizeG ?_)
  go_loopw [6] (fun i wr => ∃ k : Nat, k ≤ 19 ∧ i = .int .i64 k ∧ Grown (w.alloc (.cells #[.int .i64 0, .int .i64 0, .int .i64 0, .int .i64 0, .int .i64 0] 70)) wr) (fun i _ => 19 - (intOf i).toNat)
  case atStart => exact ⟨0, by omega, rfl, Grown.refl _⟩
  case round =>
    obtain ⟨k, hk1, rfl, hg⟩ := hrel
    by_cases hlt : k < 19
    · have hx := g_row k hlt
      have hk19 : (k : Int) < 19 := by omega
      unfold gR at hx
      have hm := hno k hlt
      by_cases hm0 : gN k 0 ≤ op
      · have hm1 : ¬ op ≤ gN k 1 := fun h => hm ⟨hm0, h⟩
        go_wp2
        refine ⟨⟨k + 1, by omega, by simp, hg.alloc _ _⟩, ?_⟩
        simp [intOf]
        omega
      · go_wp2
        refine ⟨⟨k + 1, by omega, by simp, hg.alloc _ _⟩, ?_⟩
        simp [intOf]
        omega
    · obtain rfl : k = 19 := by omega
      go_wp2_with (refine wpList_store_row rfl 70 _ _ rfl w.heap.size #[.int .i64 0, .int .i64 0, .int .i64 0, .int .i64 0, .int .i64 0] rfl rfl 70 _ (Grown.blockAt (hg) (heap_alloc_last w _)) (sizeR _ _ _ _ _) rfl (ones5 _ _ _ _ _) ?_)
      have hB := Grown.blockAt (hg) (heap_alloc_last w _)
      refine bodyPost_ret ?_ rfl ⟨rfl, Grown.rowSet (Grown.trans' ((Grown.refl _).alloc _ _) (hg)) (Nat.le_refl _) hB⟩
      exact results_cell_row rfl _ _ w.heap.size 70 _ (0, 0) _ rfl (setRow_heap _ _ _ _ _ _ hB) Tryd.underlying70 rfl (sizeR _ _ _ _ _)
end Go.Proofs.YthmanpfooegbcaaDoor
