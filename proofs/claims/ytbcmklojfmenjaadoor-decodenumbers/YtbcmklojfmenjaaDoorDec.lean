/-
  What package decode's Decode answers: walked whole, for every word, where the listed tables' cells stand.
-/
import Derived.Test.YtbcmklojfmenjaaDoorDecGuess
import Derived.Test.YtbcmklojfmenjaaDoorDecFind
namespace Go.Proofs.YtbcmklojfmenjaaDoor
open Go.RowKit
/-- The listed tables' cells stand. -/
structure Tab (w : World) : Prop where
  i : TabI w
  g : TabG w
  h : TabH w
theorem Tab.grown {a b : World} (h : Tab a) (g : Grown a b) : Tab b := ⟨h.i.grown g, h.g.grown g, h.h.grown g⟩
theorem rest_bd (v : Int) (op : Int) : 0 ≤ bits .andNot .u32 v (tlI op) ∧ bits .andNot .u32 v (tlI op) < 4294967296 := by
  show 0 ≤ IntKind.u32.wrap _ ∧ IntKind.u32.wrap _ < 4294967296
  rw [IntKind.wrap_u32]
  omega
set_option maxRecDepth 100000 in
set_option maxHeartbeats 2000000 in
theorem decode_hit (v : Int) (hv0 : 0 ≤ v) (hv1 : v < 4294967296) (n : Nat) (hn0 : 1 ≤ n) (hn1 : n < 70) (hno : ∀ j : Nat, 1 ≤ j → j < n → hitB j v = false) (hyes : hitB n v = true) (w : World) (hT : Tab w) :
    Calls Tryd.prog 9 #[.int .u32 v] w fun e w' => e = .returned (.tuple #[.agg #[.int .i64 n, .int .i64 (gRdI n v), .int .i64 (gRs1I n v), .int .i64 (gRs2I n v), .int .i64 (gImmI n v), .int .i64 (gCsrI n v)], .int .i64 0]) ∧ Grown w w' := by
  have hno' : ∀ j : Nat, 1 ≤ j → j < n → tellB j v = false := fun j a b => by rw [tell_hit j v (by omega) (by omega) hv0 hv1]; exact hno j a b
  have hyes' : tellB n v = true := by rw [tell_hit n v (by omega) (by omega) hv0 hv1]; exact hyes
  have hT1 := hT.grown ((Grown.refl w).alloc #[.int .i64 0, .int .i64 0, .int .i64 0, .int .i64 0, .int .i64 0, .int .i64 0] 25)
  obtain ⟨r0, r1⟩ := rest_bd v n
  have hr : bits .andNot .u32 v (tlI n) = bits .andNot .u32 v (tlI n) := rfl
  have hn : ¬ (n : Int) = 0 := by omega
  generalize h : bits .andNot .u32 v (tlI n) = r at r0 r1
  go_enter Tryd.func9, Tryd.ntmps9
  go_wp2_with (first | (go_at_call 17; refine (find_hit v n hn0 hn1 hno' hyes' _ hT1.g hT1.h).mono ?_; rw [h]; rintro e w1 ⟨rfl, hg1⟩) | (go_at_call 18; refine (read_at n v r (by omega) (by omega) hv0 hv1 h.symm _ (hT1.i.grown hg1)).mono ?_; rintro e w2 ⟨rfl, hg2⟩) | refine wpList_store_row rfl 25 _ _ rfl w.heap.size #[.int .i64 n, .int .i64 (gRdI n v), .int .i64 (gRs1I n v), .int .i64 (gRs2I n v), .int .i64 (gImmI n v), .int .i64 (gCsrI n v)] rfl rfl 25 _ (Grown.block (Grown.trans' hg1 hg2) (heap_alloc_last w _)) (size25 _ _ _ _ _ _) rfl (ones6 _ _ _ _ _ _) ?_)
  have hB := Grown.block (Grown.trans' hg1 hg2) (heap_alloc_last w _)
  refine bodyPost_ret ?_ rfl ⟨rfl, Grown.setRow (Grown.trans' ((Grown.refl _).alloc _ _) (Grown.trans' hg1 hg2)) (Nat.le_refl _) hB⟩
  rw [results_cell_tmp rfl]
  simp [asAddr, Result.andThen, run_loadVar_row _ _ 25 25 _ (0, 0) _ (setRow_heap _ _ _ _ _ _ hB) Tryd.underlying25 rfl (size25 _ _ _ _ _ _)]
set_option maxRecDepth 100000 in
set_option maxHeartbeats 2000000 in
theorem decode_none (v : Int) (hv0 : 0 ≤ v) (hv1 : v < 4294967296) (hno : ∀ j : Nat, 1 ≤ j → j < 70 → hitB j v = false) (w : World) (hT : Tab w) :
    Calls Tryd.prog 9 #[.int .u32 v] w fun e w' => e = .returned (.tuple #[.agg #[.int .i64 0, .int .i64 0, .int .i64 0, .int .i64 0, .int .i64 0, .int .i64 0], .int .i64 40]) ∧ Grown w w' := by
  have hno' : ∀ j : Nat, 1 ≤ j → j < 70 → tellB j v = false := fun j a b => by rw [tell_hit j v (by omega) (by omega) hv0 hv1]; exact hno j a b
  have hT1 := hT.grown ((Grown.refl w).alloc #[.int .i64 0, .int .i64 0, .int .i64 0, .int .i64 0, .int .i64 0, .int .i64 0] 25)
  go_enter Tryd.func9, Tryd.ntmps9
  go_wp2_with (first | (go_at_call 17; refine (find_none v hno' _ hT1.g hT1.h).mono ?_; rintro e w1 ⟨rfl, hg1⟩) | refine wpList_store_row rfl 25 _ _ rfl w.heap.size #[.int .i64 0, .int .i64 0, .int .i64 0, .int .i64 0, .int .i64 0, .int .i64 0] rfl rfl 25 _ (Grown.block hg1 (heap_alloc_last w _)) (size25 _ _ _ _ _ _) rfl (ones6 _ _ _ _ _ _) ?_)
  have hB := Grown.block (hg1) (heap_alloc_last w _)
  refine bodyPost_ret ?_ rfl ⟨rfl, Grown.setRow (Grown.trans' ((Grown.refl _).alloc _ _) (hg1)) (Nat.le_refl _) hB⟩
  rw [results_cell_tmp rfl]
  simp [asAddr, Result.andThen, run_loadVar_row _ _ 25 25 _ (0, 0) _ (setRow_heap _ _ _ _ _ _ hB) Tryd.underlying25 rfl (size25 _ _ _ _ _ _)]
end Go.Proofs.YtbcmklojfmenjaaDoor
