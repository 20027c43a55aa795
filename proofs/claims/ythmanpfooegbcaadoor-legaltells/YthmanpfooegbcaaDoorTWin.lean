/-
  What package csr's Read and Write answer: walked whole, for every argument, where the listed tables' cells stand.
-/
import Derived.Test.YthmanpfooegbcaaDoorTTab8
namespace Go.Proofs.YthmanpfooegbcaaDoor
open Go.RowKit
theorem vie_len : vieL.length = 12 := by decide +kernel
theorem vie_size : (Tryd.prog.info? 80).map (·.size) = some vieL.length := by rw [vie_len]; kernel_rfl
def vN (k : Nat) : Int := [256, 260, 516].getD k 0
def vI (k : Nat) : Int := [0, 3, 3].getD k 0
def vB (k : Nat) : Int := [786722, 544, 1088].getD k 0
def vS (k : Nat) : Int := [0, 0, 1].getD k 0
theorem vie_row0 (w : World) : (Instr.index 80 (.agg vieL.toArray) (.int .i64 0)).run Tryd.prog w = .ok (.agg #[.int .i64 (vN 0), .int .i64 (vI 0), .int .u64 (vB 0), .int .u8 (vS 0)]) w := by kernel_rfl
theorem vie_row1 (w : World) : (Instr.index 80 (.agg vieL.toArray) (.int .i64 1)).run Tryd.prog w = .ok (.agg #[.int .i64 (vN 1), .int .i64 (vI 1), .int .u64 (vB 1), .int .u8 (vS 1)]) w := by kernel_rfl
theorem vie_row2 (w : World) : (Instr.index 80 (.agg vieL.toArray) (.int .i64 2)).run Tryd.prog w = .ok (.agg #[.int .i64 (vN 2), .int .i64 (vI 2), .int .u64 (vB 2), .int .u8 (vS 2)]) w := by kernel_rfl
theorem vie_row (k : Nat) (hk : k < 3) (w : World) : (Instr.index 80 (.agg vieL.toArray) (.int .i64 (k : Int))).run Tryd.prog w = .ok (.agg #[.int .i64 (vN k), .int .i64 (vI k), .int .u64 (vB k), .int .u8 (vS k)]) w := by
  have : k = 0 ∨ k = 1 ∨ k = 2 := by omega
  rcases this with rfl | rfl | rfl
  · exact vie_row0 w
  · exact vie_row1 w
  · exact vie_row2 w
theorem vN_one : ∀ m j : Fin 3, j < m → vN j.val ≠ vN m.val := by decide
/-- A window: the register's index, what is shown of it, what is taken, how much lower. -/
def winA (i s t l : Int) : Array Value := #[.int .i64 i, .int .u64 s, .int .u64 t, .int .u8 l]
theorem win_ones (i s t l : Int) : (#[.int .i64 i, .int .u64 s, .int .u64 t, .int .u8 l] : Array Value).all (·.oneCell') = true := by simp [Value.oneCell']
theorem win_size (a b c d : Value) : (Tryd.prog.info? 62).map (·.size) = some (#[a, b, c, d] : Array Value).size := by kernel_rfl
theorem win_load {w : World} {b : Nat} {cs : Array Value} (h : w.heap[b]? = some (.cells cs 62 (0, 0))) (hs : cs.size = 4) : (loadVar 62 ⟨b, 0, none⟩).run Tryd.prog w = .ok (.agg cs) w := by
  have e := load_list (P := Tryd.prog) w b 62 cs.toList _ (fun i v hv => by
    rw [Array.getElem?_toList] at hv
    unfold World.cell?
    rw [h]
    exact hv) Tryd.underlying62 rfl (by rw [Array.length_toList, hs]; kernel_rfl)
  rwa [Array.toArray_toList] at e
theorem setRow_block {w : World} {b : Nat} {cs ds : Array Value} {T : TypeId} (h : w.heap[b]? = some (.cells cs T (0, 0))) : (w.setRow b ds).heap[b]? = some (.cells ds T (0, 0)) := setRow_heap w b cs ds T (0, 0) h
/-- A row that the call itself made was written. -/
theorem kept_row {w w1 : World} {o : Obj} (k : Kept (w.alloc o) w1) (ds : Array Value) : Kept w (w1.setRow w.heap.size ds) :=
  (((Only.refl _ w).alloc o).then k).new ((Only.refl (fun j => j = w.heap.size) w1).setRow rfl ds) (fun j hj => by rw [hj]; exact Nat.le_refl _)
set_option maxRecDepth 10000 in
set_option maxHeartbeats 1000000 in
theorem win_in {w : World} (hT : TabC w) (n : Int) (i : Nat) (hi : i < 29) (he : idxI n = i) :
    Calls Tryd.prog 40 #[.int .i64 n] w fun e w' => e = .returned (.tuple #[.agg (winA i 18446744073709551615 (maskI i) 0), .bool true]) ∧ Kept w w' := by
  have l0 : (0 : Int) ≤ (i : Int) := by omega
  have l1 : (i : Int) < 29 := by omega
  have hq : ((i : Int) == -1) = false := beq_eq_false_iff_ne.2 (by omega)
  unfold winA
  go_enter Tryd.func40, Tryd.ntmps40
  go_wp2_with fail
  refine (cidx_c (hT.kept ((Only.refl _ w).alloc _)) n).mono ?_
  rintro e w1 ⟨rfl, k1⟩
  rw [he]
  have hm := (hT.kept (((Only.refl _ w).alloc _).then k1)).mask hi
  have hb := k1.block (alloc_last w _ _) id
  go_wp2_with (refine wpList_store_row rfl 62 _ _ rfl w.heap.size #[.int .i64 i, .int .u64 18446744073709551615, .int .u64 (maskI i), .int .u8 0] rfl rfl 62 _ hb (win_size _ _ _ _) rfl (win_ones _ _ _ _) ?_)
  refine bodyPost_ret (results_cell2 rfl _ _ _ _ _ rfl (win_load (setRow_block hb) rfl)) rfl ?_
  exact ⟨rfl, kept_row k1 _⟩
set_option maxRecDepth 10000 in
set_option maxHeartbeats 1000000 in
theorem win_view {w : World} (hT : TabC w) (m : Nat) (hm : m < 3) (n : Int) (hn : vN m = n) (he : idxI n = -1) :
    Calls Tryd.prog 40 #[.int .i64 n] w fun e w' => e = .returned (.tuple #[.agg (winA (vI m) (vB m) (vB m) (vS m)), .bool true]) ∧ Kept w w' := by
  unfold winA
  go_enter Tryd.func40, Tryd.ntmps40
  go_wp2_with fail
  refine (cidx_c (hT.kept ((Only.refl _ w).alloc _)) n).mono ?_
  rintro e w1 ⟨rfl, k1⟩
  rw [he]
  have hT1 := hT.kept (((Only.refl _ w).alloc _).then k1)
  go_wp2_with (refine wpList_load_list rfl 80 _ rfl 4 rfl vieL _ hT1.v Tryd.underlying80 rfl vie_size ?_)
  go_loopw [18] (fun i wr => ∃ k : Nat, k ≤ m ∧ i = .int .i64 (k : Int) ∧ Kept w1 wr) (fun i _ => 3 - (intOf i).toNat)
  case atStart => exact ⟨0, Nat.zero_le _, rfl, Only.refl _ _⟩
  case round =>
    obtain ⟨k, hk, rfl, hg⟩ := hrel
    have l1 : (k : Int) < 3 := by omega
    have hx := vie_row k (by omega)
    by_cases ek : k = m
    · subst ek
      rw [hn] at hx
      have hq : (n == n) = true := beq_self_eq_true _
      have k2 := k1.then (hg.alloc (.cells #[.int .i64 n, .int .i64 (vI k), .int .u64 (vB k), .int .u8 (vS k)] 79))
      have hb := k2.block (alloc_last w _ _) id
      go_wp2_with (refine wpList_store_row rfl 62 _ _ rfl w.heap.size #[.int .i64 (vI k), .int .u64 (vB k), .int .u64 (vB k), .int .u8 (vS k)] rfl rfl 62 _ hb (win_size _ _ _ _) rfl (win_ones _ _ _ _) ?_)
      refine bodyPost_ret (results_cell2 rfl _ _ _ _ _ rfl (win_load (setRow_block hb) rfl)) rfl ?_
      exact ⟨rfl, kept_row k2 _⟩
    · have hq : (vN k == n) = false := beq_eq_false_iff_ne.2 (by rw [← hn]; exact vN_one ⟨m, hm⟩ ⟨k, by omega⟩ (show k < m by omega))
      go_wp2
      exact ⟨⟨k + 1, by omega, by go_num, hg.alloc _⟩, by simp [intOf]; omega⟩
set_option maxRecDepth 10000 in
set_option maxHeartbeats 1000000 in
theorem win_no {w : World} (hT : TabC w) (n : Int) (hno : ∀ j : Nat, j < 3 → vN j ≠ n) (he : idxI n = -1) :
    Calls Tryd.prog 40 #[.int .i64 n] w fun e w' => e = .returned (.tuple #[.agg (winA 0 0 0 0), .bool false]) ∧ Kept w w' := by
  unfold winA
  go_enter Tryd.func40, Tryd.ntmps40
  go_wp2_with fail
  refine (cidx_c (hT.kept ((Only.refl _ w).alloc _)) n).mono ?_
  rintro e w1 ⟨rfl, k1⟩
  rw [he]
  have hT1 := hT.kept (((Only.refl _ w).alloc _).then k1)
  go_wp2_with (refine wpList_load_list rfl 80 _ rfl 4 rfl vieL _ hT1.v Tryd.underlying80 rfl vie_size ?_)
  go_loopw [18] (fun i wr => ∃ k : Nat, k ≤ 3 ∧ i = .int .i64 (k : Int) ∧ Kept w1 wr) (fun i _ => 3 - (intOf i).toNat)
  case atStart => exact ⟨0, Nat.zero_le _, rfl, Only.refl _ _⟩
  case round =>
    obtain ⟨k, hk, rfl, hg⟩ := hrel
    by_cases hlt : k < 3
    · have l1 : (k : Int) < 3 := by omega
      have hx := vie_row k hlt
      have hq : (vN k == n) = false := beq_eq_false_iff_ne.2 (hno k hlt)
      go_wp2
      exact ⟨⟨k + 1, by omega, by go_num, hg.alloc _⟩, by simp [intOf]; omega⟩
    · obtain rfl : k = 3 := by omega
      have k2 := k1.then hg
      have hb := k2.block (alloc_last w _ _) id
      go_wp2_with (refine wpList_store_row rfl 62 _ _ rfl w.heap.size #[.int .i64 0, .int .u64 0, .int .u64 0, .int .u8 0] rfl rfl 62 _ hb (win_size _ _ _ _) rfl (win_ones _ _ _ _) ?_)
      refine bodyPost_ret (results_cell2 rfl _ _ _ _ _ rfl (win_load (setRow_block hb) rfl)) rfl ?_
      exact ⟨rfl, kept_row k2 _⟩
end Go.Proofs.YthmanpfooegbcaaDoor
