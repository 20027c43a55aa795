/-
  What package legal's tables hold, and what its looks into them answer: walked whole, for every number, where the listed tables' cells stand.
-/
import Derived.Test.YthmanpfooegbcaaDoorTRead8
import Derived.Test.YthmanpfooegbcaaDoorLegDoc
import Derived.Test.YthmanpfooegbcaaDoorCls
namespace Go.Proofs.YthmanpfooegbcaaDoor
open Go.RowKit
/-- The cells of the three tables, one behind the other. -/
def nmL : List Value := flatD 4 (Rows.laid_sallyport_legal_numbers (H := Unit))
def opL : List Value := flatD 4 (Rows.laid_sallyport_legal_operations (H := Unit))
def caL : List Value := flatD 4 (Rows.laid_sallyport_legal_causes (H := Unit))
structure Tab9 (w : World) : Prop where
  c : TabC w
  i : TabI w
  n : ∀ i v, nmL[i]? = some v → w.cell? ⟨0, i, none⟩ = some v
  o : ∀ i v, opL[i]? = some v → w.cell? ⟨2, i, none⟩ = some v
  a : ∀ i v, caL[i]? = some v → w.cell? ⟨1, i, none⟩ = some v
theorem Tab9.kept {w w' : World} (h : Tab9 w) (k : Kept w w') : Tab9 w' := ⟨h.c.kept k, fun i v e => k.cell (h.i i v e), fun i v e => k.cell (h.n i v e), fun i v e => k.cell (h.o i v e), fun i v e => k.cell (h.a i v e)⟩
theorem nm_len : nmL.length = 6 := by decide +kernel
theorem nm_size : (Tryd.prog.info? 66).map (·.size) = some nmL.length := by rw [nm_len]; kernel_rfl
theorem op_len : opL.length = 28 := by decide +kernel
theorem op_size : (Tryd.prog.info? 75).map (·.size) = some opL.length := by rw [op_len]; kernel_rfl
def nN (k : Nat) : Int := [384, 3074].getD k 0
def nO (k : Nat) : Int := [1, 2].getD k 0
def nT (k : Nat) : Int := [1048576, 0].getD k 0
def oF (k : Nat) : Int := [60, 61, 62, 63, 64, 65, 66].getD k 0
def oL (k : Nat) : Int := [60, 61, 62, 63, 64, 65, 69].getD k 0
def oO (k : Nat) : Int := [3, 1, 1, 1, 2, 2, 2].getD k 0
def oT (k : Nat) : Int := [0, 4194304, 2097152, 1048576, 0, 1048576, 0].getD k 0
theorem nm_row0 (w : World) : (Instr.index 66 (.agg nmL.toArray) (.int .i64 0)).run Tryd.prog w = .ok (.agg #[.int .i64 (nN 0), .int .i64 (nO 0), .int .u64 (nT 0)]) w := by kernel_rfl
theorem nm_row1 (w : World) : (Instr.index 66 (.agg nmL.toArray) (.int .i64 1)).run Tryd.prog w = .ok (.agg #[.int .i64 (nN 1), .int .i64 (nO 1), .int .u64 (nT 1)]) w := by kernel_rfl
theorem nm_row (k : Nat) (hk : k < 2) (w : World) : (Instr.index 66 (.agg nmL.toArray) (.int .i64 (k : Int))).run Tryd.prog w = .ok (.agg #[.int .i64 (nN k), .int .i64 (nO k), .int .u64 (nT k)]) w := by
  have : k = 0 ∨ k = 1 := by omega
  rcases this with rfl | rfl
  · exact nm_row0 w
  · exact nm_row1 w
theorem op_row0 (w : World) : (Instr.index 75 (.agg opL.toArray) (.int .i64 0)).run Tryd.prog w = .ok (.agg #[.int .i64 (oF 0), .int .i64 (oL 0), .int .i64 (oO 0), .int .u64 (oT 0)]) w := by kernel_rfl
theorem op_row1 (w : World) : (Instr.index 75 (.agg opL.toArray) (.int .i64 1)).run Tryd.prog w = .ok (.agg #[.int .i64 (oF 1), .int .i64 (oL 1), .int .i64 (oO 1), .int .u64 (oT 1)]) w := by kernel_rfl
theorem op_row2 (w : World) : (Instr.index 75 (.agg opL.toArray) (.int .i64 2)).run Tryd.prog w = .ok (.agg #[.int .i64 (oF 2), .int .i64 (oL 2), .int .i64 (oO 2), .int .u64 (oT 2)]) w := by kernel_rfl
theorem op_row3 (w : World) : (Instr.index 75 (.agg opL.toArray) (.int .i64 3)).run Tryd.prog w = .ok (.agg #[.int .i64 (oF 3), .int .i64 (oL 3), .int .i64 (oO 3), .int .u64 (oT 3)]) w := by kernel_rfl
theorem op_row4 (w : World) : (Instr.index 75 (.agg opL.toArray) (.int .i64 4)).run Tryd.prog w = .ok (.agg #[.int .i64 (oF 4), .int .i64 (oL 4), .int .i64 (oO 4), .int .u64 (oT 4)]) w := by kernel_rfl
theorem op_row5 (w : World) : (Instr.index 75 (.agg opL.toArray) (.int .i64 5)).run Tryd.prog w = .ok (.agg #[.int .i64 (oF 5), .int .i64 (oL 5), .int .i64 (oO 5), .int .u64 (oT 5)]) w := by kernel_rfl
theorem op_row6 (w : World) : (Instr.index 75 (.agg opL.toArray) (.int .i64 6)).run Tryd.prog w = .ok (.agg #[.int .i64 (oF 6), .int .i64 (oL 6), .int .i64 (oO 6), .int .u64 (oT 6)]) w := by kernel_rfl
theorem op_row (k : Nat) (hk : k < 7) (w : World) : (Instr.index 75 (.agg opL.toArray) (.int .i64 (k : Int))).run Tryd.prog w = .ok (.agg #[.int .i64 (oF k), .int .i64 (oL k), .int .i64 (oO k), .int .u64 (oT k)]) w := by
  have : k = 0 ∨ k = 1 ∨ k = 2 ∨ k = 3 ∨ k = 4 ∨ k = 5 ∨ k = 6 := by omega
  rcases this with rfl | rfl | rfl | rfl | rfl | rfl | rfl
  · exact op_row0 w
  · exact op_row1 w
  · exact op_row2 w
  · exact op_row3 w
  · exact op_row4 w
  · exact op_row5 w
  · exact op_row6 w
theorem right_size (a b : Value) : (Tryd.prog.info? 48).map (·.size) = some (#[a, b] : Array Value).size := by kernel_rfl
theorem right_ones (a b : Int) : (#[.int .i64 a, .int .u64 b] : Array Value).all (·.oneCell') = true := by simp [Value.oneCell']
theorem right_load {w : World} {b : Nat} {cs : Array Value} (h : w.heap[b]? = some (.cells cs 48 (0, 0))) (hs : cs.size = 2) : (loadVar 48 ⟨b, 0, none⟩).run Tryd.prog w = .ok (.agg cs) w := by
  have e := load_list (P := Tryd.prog) w b 48 cs.toList _ (fun i v hv => by
    rw [Array.getElem?_toList] at hv
    unfold World.cell?
    rw [h]
    exact hv) Tryd.underlying48 rfl (by rw [Array.length_toList, hs]; kernel_rfl)
  rwa [Array.toArray_toList] at e
set_option maxRecDepth 10000 in
set_option maxHeartbeats 1000000 in
theorem num_hit {w : World} (hT : Tab9 w) (n : Int) (m : Nat) (hm : m < 2) (hn : nN m = n) (hno : ∀ j : Nat, j < m → nN j ≠ n) :
    Calls Tryd.prog 23 #[.int .i64 n] w fun e w' => e = .returned (.agg #[.int .i64 (nO m), .int .u64 (nT m)]) ∧ Kept w w' := by
  go_enter Tryd.func23, Tryd.ntmps23
  go_wp2_with (refine wpList_load_list rfl 66 _ rfl 0 rfl nmL _ (hT.kept ((Only.refl _ w).alloc _)).n Tryd.underlying66 rfl nm_size ?_)
  go_loopw [6] (fun i wr => ∃ k : Nat, k ≤ m ∧ i = .int .i64 (k : Int) ∧ Kept (w.alloc (.cells #[.int .i64 0, .int .u64 0] 48)) wr) (fun i _ => 2 - (intOf i).toNat)
  case atStart => exact ⟨0, Nat.zero_le _, rfl, Only.refl _ _⟩
  case round =>
    obtain ⟨k, hk, rfl, hg⟩ := hrel
    have l1 : (k : Int) < 2 := by omega
    have hx := nm_row k (by omega)
    by_cases ek : k = m
    · subst ek
      rw [hn] at hx
      have hq : (n == n) = true := beq_self_eq_true _
      have k2 := hg.alloc (.cells #[.int .i64 n, .int .i64 (nO k), .int .u64 (nT k)] 65)
      have hb := k2.block (alloc_last w _ _) id
      go_wp2_with (refine wpList_store_row rfl 48 _ _ rfl w.heap.size #[.int .i64 (nO k), .int .u64 (nT k)] rfl rfl 48 _ hb (right_size _ _) rfl (right_ones _ _) ?_)
      refine bodyPost_ret ?_ rfl ⟨rfl, kept_row k2 _⟩
      exact results_cell_row rfl _ _ w.heap.size 48 _ (0, 0) _ rfl (setRow_heap _ _ _ _ _ _ hb) Tryd.underlying48 rfl (right_size _ _)
    · have hq : (nN k == n) = false := beq_eq_false_iff_ne.2 (hno k (by omega))
      go_wp2
      exact ⟨⟨k + 1, by omega, by go_num, hg.alloc _⟩, by simp [intOf]; omega⟩
set_option maxRecDepth 10000 in
set_option maxHeartbeats 1000000 in
theorem num_none {w : World} (hT : Tab9 w) (n : Int) (hno : ∀ j : Nat, j < 2 → nN j ≠ n) :
    Calls Tryd.prog 23 #[.int .i64 n] w fun e w' => e = .returned (.agg #[.int .i64 (whoI n), .int .u64 0]) ∧ Kept w w' := by
  unfold whoI
  go_enter Tryd.func23, Tryd.ntmps23
  go_wp2_with (refine wpList_load_list rfl 66 _ rfl 0 rfl nmL _ (hT.kept ((Only.refl _ w).alloc _)).n Tryd.underlying66 rfl nm_size ?_)
  go_loopw [6] (fun i wr => ∃ k : Nat, k ≤ 2 ∧ i = .int .i64 (k : Int) ∧ Kept (w.alloc (.cells #[.int .i64 0, .int .u64 0] 48)) wr) (fun i _ => 2 - (intOf i).toNat)
  case atStart => exact ⟨0, Nat.zero_le _, rfl, Only.refl _ _⟩
  case round =>
    obtain ⟨k, hk, rfl, hg⟩ := hrel
    by_cases hlt : k < 2
    · have l1 : (k : Int) < 2 := by omega
      have hx := nm_row k hlt
      have hq : (nN k == n) = false := beq_eq_false_iff_ne.2 (hno k hlt)
      go_wp2
      exact ⟨⟨k + 1, by omega, by go_num, hg.alloc _⟩, by simp [intOf]; omega⟩
    · obtain rfl : k = 2 := by omega
      have hb := hg.block (alloc_last w _ _) id
      go_wp2_with (refine wpList_store_row rfl 48 _ _ rfl w.heap.size #[.int .i64 (bits .and .i64 (n / 256) 3), .int .u64 0] rfl rfl 48 _ hb (right_size _ _) rfl (right_ones _ _) ?_)
      refine bodyPost_ret ?_ rfl ⟨rfl, kept_row hg _⟩
      exact results_cell_row rfl _ _ w.heap.size 48 _ (0, 0) _ rfl (setRow_heap _ _ _ _ _ _ hb) Tryd.underlying48 rfl (right_size _ _)
set_option maxRecDepth 10000 in
set_option maxHeartbeats 1000000 in
theorem oper_hit {w : World} (hT : Tab9 w) (op : Int) (m : Nat) (hm : m < 7) (hno : ∀ j : Nat, j < m → ¬ (oF j ≤ op ∧ op ≤ oL j)) (h0 : oF m ≤ op) (h1 : op ≤ oL m) :
    Calls Tryd.prog 33 #[.int .i64 op] w fun e w' => e = .returned (.agg #[.int .i64 (oO m), .int .u64 (oT m)]) ∧ Kept w w' := by
  go_enter Tryd.func33, Tryd.ntmps33
  go_wp2_with (refine wpList_load_list rfl 75 _ rfl 2 rfl opL _ (hT.kept ((Only.refl _ w).alloc _)).o Tryd.underlying75 rfl op_size ?_)
  go_loopw [6] (fun i wr => ∃ k : Nat, k ≤ m ∧ i = .int .i64 (k : Int) ∧ Kept (w.alloc (.cells #[.int .i64 0, .int .u64 0] 48)) wr) (fun i _ => 7 - (intOf i).toNat)
  case atStart => exact ⟨0, Nat.zero_le _, rfl, Only.refl _ _⟩
  case round =>
    obtain ⟨k, hk, rfl, hg⟩ := hrel
    have l1 : (k : Int) < 7 := by omega
    have hx := op_row k (by omega)
    by_cases ek : k = m
    · subst ek
      have k2 := hg.alloc (.cells #[.int .i64 (oF k), .int .i64 (oL k), .int .i64 (oO k), .int .u64 (oT k)] 74)
      have hb := k2.block (alloc_last w _ _) id
      go_wp2_with (refine wpList_store_row rfl 48 _ _ rfl w.heap.size #[.int .i64 (oO k), .int .u64 (oT k)] rfl rfl 48 _ hb (right_size _ _) rfl (right_ones _ _) ?_)
      refine bodyPost_ret ?_ rfl ⟨rfl, kept_row k2 _⟩
      exact results_cell_row rfl _ _ w.heap.size 48 _ (0, 0) _ rfl (setRow_heap _ _ _ _ _ _ hb) Tryd.underlying48 rfl (right_size _ _)
    · have hm' := hno k (by omega)
      by_cases hm0 : oF k ≤ op
      · have hm1 : ¬ op ≤ oL k := fun h => hm' ⟨hm0, h⟩
        go_wp2
        exact ⟨⟨k + 1, by omega, by go_num, hg.alloc _⟩, by simp [intOf]; omega⟩
      · go_wp2
        exact ⟨⟨k + 1, by omega, by go_num, hg.alloc _⟩, by simp [intOf]; omega⟩
set_option maxRecDepth 10000 in
set_option maxHeartbeats 1000000 in
theorem oper_none {w : World} (hT : Tab9 w) (op : Int) (hno : ∀ j : Nat, j < 7 → ¬ (oF j ≤ op ∧ op ≤ oL j)) :
    Calls Tryd.prog 33 #[.int .i64 op] w fun e w' => e = .returned (.agg #[.int .i64 0, .int .u64 0]) ∧ Kept w w' := by
  go_enter Tryd.func33, Tryd.ntmps33
  go_wp2_with (refine wpList_load_list rfl 75 _ rfl 2 rfl opL _ (hT.kept ((Only.refl _ w).alloc _)).o Tryd.underlying75 rfl op_size ?_)
  go_loopw [6] (fun i wr => ∃ k : Nat, k ≤ 7 ∧ i = .int .i64 (k : Int) ∧ Kept (w.alloc (.cells #[.int .i64 0, .int .u64 0] 48)) wr) (fun i _ => 7 - (intOf i).toNat)
  case atStart => exact ⟨0, Nat.zero_le _, rfl, Only.refl _ _⟩
  case round =>
    obtain ⟨k, hk, rfl, hg⟩ := hrel
    by_cases hlt : k < 7
    · have l1 : (k : Int) < 7 := by omega
      have hx := op_row k hlt
      have hm' := hno k hlt
      by_cases hm0 : oF k ≤ op
      · have hm1 : ¬ op ≤ oL k := fun h => hm' ⟨hm0, h⟩
        go_wp2
        exact ⟨⟨k + 1, by omega, by go_num, hg.alloc _⟩, by simp [intOf]; omega⟩
      · go_wp2
        exact ⟨⟨k + 1, by omega, by go_num, hg.alloc _⟩, by simp [intOf]; omega⟩
    · obtain rfl : k = 7 := by omega
      have hb := hg.block (alloc_last w _ _) id
      go_wp2_with (refine wpList_store_row rfl 48 _ _ rfl w.heap.size #[.int .i64 0, .int .u64 0] rfl rfl 48 _ hb (right_size _ _) rfl (right_ones _ _) ?_)
      refine bodyPost_ret ?_ rfl ⟨rfl, kept_row hg _⟩
      exact results_cell_row rfl _ _ w.heap.size 48 _ (0, 0) _ rfl (setRow_heap _ _ _ _ _ _ hb) Tryd.underlying48 rfl (right_size _ _)
end Go.Proofs.YthmanpfooegbcaaDoor
