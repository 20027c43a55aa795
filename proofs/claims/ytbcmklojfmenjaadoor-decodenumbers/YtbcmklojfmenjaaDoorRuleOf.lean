/-
  What package insn's ruleOf answers: its loop over the listed table, walked for every number.
-/
import Derived.Test.YtbcmklojfmenjaaDoorRule
namespace Go.Proofs.YtbcmklojfmenjaaDoor
open Go.RowKit
theorem ones5 (a b c d e : Int) : (#[.int .i64 a, .int .i64 b, .int .i64 c, .int .i64 d, .int .i64 e] : Array Value).all (·.oneCell') = true := by simp [Value.oneCell']
theorem sizeR (a b c d e : Value) : (Tryd.prog.info? 53).map (·.size) = some (#[a, b, c, d, e] : Array Value).size := by kernel_rfl
theorem Grown.rowSet {W w' : World} (h : Grown W w') {g : Nat} (hg : W.heap.size ≤ g) {old cs : Array Value} {t : TypeId} {fr : Nat × Nat} (ho : w'.heap[g]? = some (.cells old t fr)) : Grown W (w'.setRow g cs) := by
  obtain ⟨⟨h1, h2, h3⟩, hf, hs⟩ := h
  refine ⟨⟨h1, h2, fun i hi => ?_⟩, fun x => ?_, by simpa using hs⟩
  · rw [setRow_other w' g i cs (by omega)]
    exact h3 i hi
  · rw [← hf x]
    unfold World.frozen?
    by_cases e : x.block = g
    · rw [e, setRow_heap w' g old cs t fr ho, ho]
    · rw [setRow_other w' g x.block cs e]
theorem Grown.blockAt {a b : World} (h : Grown a b) {i : Nat} {c : Array Value} {t : TypeId} {fr : Nat × Nat} (hi : a.heap[i]? = some (.cells c t fr)) : b.heap[i]? = some (.cells c t fr) := by
  have hlt : i < a.heap.size := (Array.getElem?_eq_some_iff.1 hi).1
  have h3 := h.1.2.2 i hlt
  rw [hi] at h3
  cases hb : b.heap[i]? with
  | none => rw [hb] at h3; simp at h3
  | some o =>
    cases o <;> rw [hb] at h3 <;> simp at h3
    case cells c' t' fr' =>
      obtain ⟨rfl, rfl, hsz, hc⟩ := h3
      have : c' = c := Array.ext_getElem? (fun j => hc j)
      rw [this]
set_option maxRecDepth 100000 in
set_option maxHeartbeats 4000000 in
theorem rule_hit (op : Int) (n : Nat) (hn : n < 19) (hno : ∀ j : Nat, j < n → ¬ (gN j 0 ≤ op ∧ op ≤ gN j 1)) (h0 : gN n 0 ≤ op) (h1 : op ≤ gN n 1) (w : World) (hT : TabI w) :
    Calls Tryd.prog 25 #[.int .i64 op] w fun e w' => e = .returned (.agg #[.int .i64 (gN n 2), .int .i64 (gN n 3), .int .i64 (gN n 4), .int .i64 (gN n 5), .int .i64 (gN n 6)]) ∧ Grown w w' := by
  go_enter Tryd.func25, Tryd.ntmps25
  go_wp2_with (refine wpList_load_list rfl 76 _ rfl 2 rfl gL _ (hT.grown ((Grown.refl w).alloc _ _)) Tryd.underlying76 rfl sizeG ?_)
  go_loopw [6] (fun i wr => ∃ k : Nat, k ≤ n ∧ i = .int .i64 k ∧ Grown (w.alloc (.cells #[.int .i64 0, .int .i64 0, .int .i64 0, .int .i64 0, .int .i64 0] 53)) wr) (fun i _ => n - (intOf i).toNat)
  case atStart => exact ⟨0, by omega, rfl, Grown.refl _⟩
  case round =>
    obtain ⟨k, hk1, rfl, hg⟩ := hrel
    have hx := g_row k (by omega)
    have hk19 : (k : Int) < 19 := by omega
    unfold gR at hx
    by_cases hlt : k < n
    · have hm := hno k hlt
      by_cases hm0 : gN k 0 ≤ op
      · have hm1 : ¬ op ≤ gN k 1 := fun h => hm ⟨hm0, h⟩
        go_wp2
        refine ⟨⟨k + 1, by omega, by simp, hg.alloc _ _⟩, ?_⟩
        simp [intOf]
        omega
      · go_wp2
        refine ⟨⟨k + 1, by omega, by simp, hg.alloc _ _⟩, ?_⟩
        simp [intOf]
        omega
    · obtain rfl : k = n := by omega
      go_wp2_with (refine wpList_store_row rfl 53 _ _ rfl w.heap.size #[.int .i64 (gN k 2), .int .i64 (gN k 3), .int .i64 (gN k 4), .int .i64 (gN k 5), .int .i64 (gN k 6)] rfl rfl 53 _ (Grown.blockAt (hg.alloc _ _) (heap_alloc_last w _)) (sizeR _ _ _ _ _) rfl (ones5 _ _ _ _ _) ?_)
      have hB := Grown.blockAt (hg.alloc #[.int .i64 (gN k 0), .int .i64 (gN k 1), .int .i64 (gN k 2), .int .i64 (gN k 3), .int .i64 (gN k 4), .int .i64 (gN k 5), .int .i64 (gN k 6)] 75) (heap_alloc_last w _)
      refine bodyPost_ret ?_ rfl ⟨rfl, Grown.rowSet (Grown.trans' ((Grown.refl _).alloc _ _) (hg.alloc _ _)) (Nat.le_refl _) hB⟩
      exact results_cell_row rfl _ _ w.heap.size 53 _ (0, 0) _ rfl (setRow_heap _ _ _ _ _ _ hB) Tryd.underlying53 rfl (sizeR _ _ _ _ _)
set_option maxRecDepth 100000 in
set_option maxHeartbeats 4000000 in
theorem rule_none (op : Int) (hno : ∀ j : Nat, j < 19 → ¬ (gN j 0 ≤ op ∧ op ≤ gN j 1)) (w : World) (hT : TabI w) :
    Calls Tryd.prog 25 #[.int .i64 op] w fun e w' => e = .returned (.agg #[.int .i64 0, .int .i64 0, .int .i64 0, .int .i64 0, .int .i64 0]) ∧ Grown w w' := by
  go_enter Tryd.func25, Tryd.ntmps25
  go_wp2_with (refine wpList_load_list rfl 76 _ rfl 2 rfl gL _ (hT.grown ((Grown.refl w).alloc _ _)) Tryd.underlying76 rfl sizeG ?_)
  go_loopw [6] (fun i wr => ∃ k : Nat, k ≤ 19 ∧ i = .int .i64 k ∧ Grown (w.alloc (.cells #[.int .i64 0, .int .i64 0, .int .i64 0, .int .i64 0, .int .i64 0] 53)) wr) (fun i _ => 19 - (intOf i).toNat)
  case atStart => exact ⟨0, by omega, rfl, Grown.refl _⟩
  case round =>
    obtain ⟨k, hk1, rfl, hg⟩ := hrel
    by_cases hlt : k < 19
    · have hx := g_row k hlt
      have hk19 : (k : Int) < 19 := by omega
      unfold gR at hx
      have hm := hno k hlt
      by_cases hm0 : gN k 0 ≤ op
      · have hm1 : ¬ op ≤ gN k 1 := fun h => hm ⟨hm0, h⟩
        go_wp2
        refine ⟨⟨k + 1, by omega, by simp, hg.alloc _ _⟩, ?_⟩
        simp [intOf]
        omega
      · go_wp2
        refine ⟨⟨k + 1, by omega, by simp, hg.alloc _ _⟩, ?_⟩
        simp [intOf]
        omega
    · obtain rfl : k = 19 := by omega
      go_wp2_with (refine wpList_store_row rfl 53 _ _ rfl w.heap.size #[.int .i64 0, .int .i64 0, .int .i64 0, .int .i64 0, .int .i64 0] rfl rfl 53 _ (Grown.blockAt (hg) (heap_alloc_last w _)) (sizeR _ _ _ _ _) rfl (ones5 _ _ _ _ _) ?_)
      have hB := Grown.blockAt (hg) (heap_alloc_last w _)
      refine bodyPost_ret ?_ rfl ⟨rfl, Grown.rowSet (Grown.trans' ((Grown.refl _).alloc _ _) (hg)) (Nat.le_refl _) hB⟩
      exact results_cell_row rfl _ _ w.heap.size 53 _ (0, 0) _ rfl (setRow_heap _ _ _ _ _ _ hB) Tryd.underlying53 rfl (sizeR _ _ _ _ _)
end Go.Proofs.YtbcmklojfmenjaaDoor
