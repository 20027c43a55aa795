/-
  What the document's registers of control answer (Number, Index, put, Mpp, Redirect, Pending, bits, Mask of the reference): walked whole, for every argument.
-/
import Derived.Test.YthmanpfooegbcaaDoorCsrDoc
import Derived.Deep.WholeRow
namespace Go.Proofs.YthmanpfooegbcaaDoor
open Go.RowKit
theorem alloc_last (w : World) (c : Array Value) (T : TypeId) : (w.alloc (.cells c T)).heap[w.heap.size]? = some (.cells c T (0, 0)) := Go.Deep.blk_alloc_new _ _
def numA : Array Value := rowOf 29 (fun i => .int .i64 (numL.getD i 0))
def numZ : Array Value := #[.int .i64 0, .int .i64 0, .int .i64 0, .int .i64 0, .int .i64 0, .int .i64 0, .int .i64 0, .int .i64 0, .int .i64 0, .int .i64 0, .int .i64 0, .int .i64 0, .int .i64 0, .int .i64 0, .int .i64 0, .int .i64 0, .int .i64 0, .int .i64 0, .int .i64 0, .int .i64 0, .int .i64 0, .int .i64 0, .int .i64 0, .int .i64 0, .int .i64 0, .int .i64 0, .int .i64 0, .int .i64 0, .int .i64 0]
theorem size_num : (Tryd.prog.info? 55).map (·.size) = some numA.size := by kernel_rfl
theorem one_num : numA.all (·.oneCell') = true := by decide +kernel
theorem same_num : numZ.size = numA.size := rfl
set_option maxRecDepth 10000 in
set_option maxHeartbeats 1000000 in
theorem rnum_any (i : Int) (w : World) :
    Calls Tryd.prog 17 #[.int .i64 i] w fun e w' => e = .returned (.int .i64 (numI i)) ∧ Kept w w' := by
  have hk : Kept w (w.alloc (.cells numA 55)) := (Only.refl _ w).alloc _
  unfold numI
  by_cases hi : 0 ≤ i ∧ i < 29
  · rw [if_pos hi]
    obtain ⟨k, rfl⟩ := Int.eq_ofNat_of_zero_le hi.1
    have hc := (row_alloc w 29 (fun i => .int .i64 (numL.getD i 0)) 55).cell (i := k) (by omega)
    have l0 := hi.1
    have l1 := hi.2
    rw [Int.toNat_natCast]
    obtain ⟨x, hx⟩ : ∃ x, numL.getD k 0 = x := ⟨_, rfl⟩
    rw [hx] at hc ⊢
    rw [show rowOf 29 (fun i => Value.int .i64 (numL.getD i 0)) = numA from rfl] at hc
    clear hi hx
    go_enter Tryd.func17, Tryd.ntmps17
    go_wp2_with first | refine wpList_built rfl 55 _ rfl numA (by kernel_rfl) ?_ | (refine wpList_store_row rfl 55 _ _ rfl _ numA rfl rfl 55 numZ (alloc_last _ _ _) size_num same_num one_num ?_; rw [World.setRow_alloc_new])
    go_ret
    exact ⟨rfl, hk⟩
  · rw [if_neg hi]
    by_cases h0 : i < 0
    all_goals
      go_enter Tryd.func17, Tryd.ntmps17
      go_wp2_with first | refine wpList_built rfl 55 _ rfl numA (by kernel_rfl) ?_ | (refine wpList_store_row rfl 55 _ _ rfl _ numA rfl rfl 55 numZ (alloc_last _ _ _) size_num same_num one_num ?_; rw [World.setRow_alloc_new])
      go_ret
      exact ⟨rfl, hk⟩
set_option maxRecDepth 10000 in
set_option maxHeartbeats 1000000 in
theorem ridx_any (n : Int) (w : World) :
    Calls Tryd.prog 16 #[.int .i64 n] w fun e w' => e = .returned (.int .i64 (idxI n)) ∧ Kept w w' := by
  by_cases h : 0 ≤ idxI n
  · obtain ⟨m, hm, he, hn, hno⟩ := idx_yes h
    rw [he]
    clear h he
    go_enter Tryd.func16, Tryd.ntmps16
    go_wp2
    go_loopw [3] (fun i wr => ∃ k : Nat, k ≤ m ∧ i = .int .i64 (k : Int) ∧ Kept w wr) (fun i _ => 29 - (intOf i).toNat)
    case atStart => exact ⟨0, Nat.zero_le _, rfl, Only.refl _ _⟩
    case round =>
      obtain ⟨k, hk, rfl, hg⟩ := hrel
      have l1 : (k : Int) < 29 := by omega
      go_wp2_with fail
      refine (rnum_any _ _).mono ?_
      rintro e w1 ⟨rfl, k1⟩
      by_cases ek : k = m
      · rw [ek, hn]
        have hq : (n == n) = true := beq_self_eq_true _
        go_wp2
        go_ret
        exact ⟨rfl, hg.then k1⟩
      · have hq : (numI (k : Int) == n) = false := beq_eq_false_iff_ne.2 (hno k (by omega))
        go_wp2
        exact ⟨⟨k + 1, by omega, by go_num, hg.then k1⟩, by simp [intOf]; omega⟩
  · obtain ⟨he, hno⟩ := idx_no h
    rw [he]
    clear h he
    go_enter Tryd.func16, Tryd.ntmps16
    go_wp2
    go_loopw [3] (fun i wr => ∃ k : Nat, k ≤ 29 ∧ i = .int .i64 (k : Int) ∧ Kept w wr) (fun i _ => 29 - (intOf i).toNat)
    case atStart => exact ⟨0, Nat.zero_le _, rfl, Only.refl _ _⟩
    case round =>
      obtain ⟨k, hk, rfl, hg⟩ := hrel
      by_cases hlt : k < 29
      · have l1 : (k : Int) < 29 := by omega
        go_wp2_with fail
        refine (rnum_any _ _).mono ?_
        rintro e w1 ⟨rfl, k1⟩
        have hq : (numI (k : Int) == n) = false := beq_eq_false_iff_ne.2 (hno k hlt)
        go_wp2
        exact ⟨⟨k + 1, by omega, by go_num, hg.then k1⟩, by simp [intOf]; omega⟩
      · obtain rfl : k = 29 := by omega
        go_wp2
        go_ret
        exact ⟨rfl, hg⟩
set_option maxHeartbeats 1000000 in
theorem rmpp_any (v : Int) (hv : U v) (w : World) :
    Calls Tryd.prog 21 #[.int .u64 v] w fun e w' => e = .returned (.int .u64 (mppI v)) ∧ w' = w := by
  have h0 := hv.1
  unfold mppI
  by_cases h : bits .and .u64 (v / 2048) 3 = 2
  · rw [if_pos h]
    have hb : (bits .and .u64 (v / 2048) 3 == 2) = true := by rw [h]; rfl
    go_enter Tryd.func21, Tryd.ntmps21
    go_wp2
    go_ret
    exact ⟨rfl, rfl⟩
  · rw [if_neg h]
    have hb : (bits .and .u64 (v / 2048) 3 == 2) = false := beq_eq_false_iff_ne.2 h
    go_enter Tryd.func21, Tryd.ntmps21
    go_wp2
    go_ret
    exact ⟨rfl, rfl⟩
end Go.Proofs.YthmanpfooegbcaaDoor
