/-
  What stands for a number in a guest, what waits, the bits that may be written, by the document (Redirect, Pending, bits, Mask of the reference): walked whole, for every argument.
-/
import Derived.Test.YtkijdogckfpdpaaDoorRefCsr
namespace Go.Proofs.YtkijdogckfpdpaaDoor
open Go.RowKit
set_option maxRecDepth 10000 in
set_option maxHeartbeats 1000000 in
theorem rpen_any (S : StM) (t l : Bool) (w : World) :
    Calls Tryd.prog 22 #[.agg (rowOf 65 (stF S)), .bool t, .bool l] w fun e w' => e = .returned (.int .u64 (penI S t l)) ∧ Kept w w' := by
  have hc := (st_new w S).c (i := 19) (by omega)
  cases t <;> cases l
  all_goals
    go_enter Tryd.func22, Tryd.ntmps22
    go_wp2
    go_ret
    exact ⟨rfl, (Only.refl _ w).alloc _⟩
/-- The number with these bits. -/
def orL (l : List Nat) : Int := l.foldl (fun v i => bits .or .u64 v (2 ^ i)) 0
theorem orL_snoc (l : List Nat) (i : Nat) : orL (l ++ [i]) = bits .or .u64 (orL l) (2 ^ i) := by simp [orL]
theorem U_orL (l : List Nat) : U (orL l) := by
  rcases List.eq_nil_or_concat l with rfl | ⟨l, i, rfl⟩
  · unfold orL U; simp
  · rw [List.concat_eq_append, orL_snoc]; exact U_wrap _
theorem cells_at (w : World) (c : Array Value) (T : TypeId) (j : Nat) (v : Value) (h : c[j]? = some v) : (w.alloc (.cells c T)).cell? ⟨w.heap.size, j, none⟩ = some v := by
  have hb : (w.alloc (.cells c T)).heap[w.heap.size]? = some (.cells c T (0, 0)) := Go.Deep.blk_alloc_new w (.cells c T)
  rw [World.cell?, hb]
  exact h
set_option maxRecDepth 10000 in
set_option maxHeartbeats 1000000 in
theorem rbits_any8 (L : List Nat) (hL : ∀ i ∈ L, i < 64) (hn : L.length < 1000) (g c : Nat) (w : World) (hc : ∀ (j x : Nat), L[j]? = some x → w.cell? ⟨g, j, none⟩ = some (.int .i64 (x : Int))) :
    Calls Tryd.prog 23 #[.slice (some ⟨g, 0, none⟩) L.length c] w fun e w' => e = .returned (.int .u64 (orL L)) ∧ w' = w := by
  go_enter Tryd.func23, Tryd.ntmps23
  go_wp2
  go_loopw [3, 4] (fun v i wr => ∃ k : Nat, k ≤ L.length ∧ v = .int .u64 (orL (L.take k)) ∧ i = .int .i64 (k : Int) ∧ wr = w) (fun _ i _ => L.length - (intOf i).toNat)
  case atStart => exact ⟨0, Nat.zero_le _, rfl, rfl, rfl⟩
  case round =>
    obtain ⟨k, hk, rfl, rfl, rfl⟩ := hrel
    by_cases hlt : k < L.length
    · obtain ⟨x, hx⟩ : ∃ x, L[k]? = some x := ⟨_, List.getElem?_eq_getElem hlt⟩
      have hcell := hc k x hx
      have hx64 := hL x (List.mem_of_getElem? hx)
      have l0 : (0 : Int) ≤ (k : Int) := by omega
      have l1 : (k : Int) < (L.length : Int) := by omega
      have x0 : (0 : Int) ≤ (x : Int) := by omega
      have x1 : (x : Int) < 64 := by omega
      have hst : orL (L.take (k + 1)) = bits .or .u64 (orL (L.take k)) (2 ^ x) := by
        rw [show L.take (k + 1) = L.take k ++ L[k]?.toList from List.take_add_one, hx]
        exact orL_snoc _ _
      have hsh : IntKind.u64.wrap (2 ^ x) = 2 ^ x := by
        refine wrap_id ?_
        have h2 : (2 : Int) ^ x = ((2 ^ x : Nat) : Int) := by simp
        have h3 : 2 ^ x < 18446744073709551616 := Nat.lt_of_le_of_lt (Nat.pow_le_pow_right (by decide) (show x ≤ 63 by omega)) (by decide)
        rw [h2]
        generalize 2 ^ x = y at h3
        unfold U
        omega
      go_wp2
      refine ⟨⟨k + 1, by omega, ?_, by go_num, trivial⟩, by simp [intOf]; omega⟩
      have hxk : L[k] = x := by
        rw [List.getElem?_eq_getElem hlt] at hx
        exact Option.some.inj hx
      rw [hst, hxk, show IntKind.u64.wrap (x : Int) = (x : Int) from wrap_id (by unfold U; omega), Int.toNat_natCast, Nat.min_eq_left (by omega), hsh]
    · obtain rfl : k = L.length := by omega
      have l1 : ¬ (L.length : Int) < (L.length : Int) := by omega
      go_wp2
      go_ret
      exact ⟨rfl, rfl⟩
set_option maxRecDepth 10000 in
theorem rmask_0 (w : World) :
    Calls Tryd.prog 15 #[.int .i64 0] w fun e w' => e = .returned (.int .u64 (maskI 0)) ∧ Kept w w' := by
  have hv : orL [1, 3, 5, 7, 8, 11, 12, 18, 19, 20, 21, 22, 38, 39] = maskI 0 := by decide +kernel
  go_enter Tryd.func15, Tryd.ntmps15
  go_wp2_with fail
  refine (rbits_any8 [1, 3, 5, 7, 8, 11, 12, 18, 19, 20, 21, 22, 38, 39] (by decide) (by decide) _ _ _ (fun j x hx => cells_at _ _ _ j _ (by
    have e : (([1, 3, 5, 7, 8, 11, 12, 18, 19, 20, 21, 22, 38, 39] : List Nat).map fun (i : Nat) => Value.int .i64 (i : Int))[j]? = some (.int .i64 (x : Int)) := by rw [List.getElem?_map, hx]; rfl
    rw [← List.getElem?_toArray] at e
    exact e))).mono ?_
  rintro e w1 ⟨rfl, rfl⟩
  rw [hv]
  go_wp2
  go_ret
  exact ⟨rfl, (Only.refl _ w).alloc _⟩
set_option maxRecDepth 10000 in
theorem rmask_1 (w : World) :
    Calls Tryd.prog 15 #[.int .i64 1] w fun e w' => e = .returned (.int .u64 (maskI 1)) ∧ Kept w w' := by
  have hv : orL [0, 1, 2, 3, 4, 5, 6, 7, 8, 10, 12, 13, 15, 20, 21, 22, 23] = maskI 1 := by decide +kernel
  go_enter Tryd.func15, Tryd.ntmps15
  go_wp2_with fail
  refine (rbits_any8 [0, 1, 2, 3, 4, 5, 6, 7, 8, 10, 12, 13, 15, 20, 21, 22, 23] (by decide) (by decide) _ _ _ (fun j x hx => cells_at _ _ _ j _ (by
    have e : (([0, 1, 2, 3, 4, 5, 6, 7, 8, 10, 12, 13, 15, 20, 21, 22, 23] : List Nat).map fun (i : Nat) => Value.int .i64 (i : Int))[j]? = some (.int .i64 (x : Int)) := by rw [List.getElem?_map, hx]; rfl
    rw [← List.getElem?_toArray] at e
    exact e))).mono ?_
  rintro e w1 ⟨rfl, rfl⟩
  rw [hv]
  go_wp2
  go_ret
  exact ⟨rfl, (Only.refl _ w).alloc _⟩
set_option maxRecDepth 10000 in
theorem rmask_2 (w : World) :
    Calls Tryd.prog 15 #[.int .i64 2] w fun e w' => e = .returned (.int .u64 (maskI 2)) ∧ Kept w w' := by
  go_enter Tryd.func15, Tryd.ntmps15
  go_wp2
  go_ret
  exact ⟨rfl, Only.refl _ _⟩
set_option maxRecDepth 10000 in
theorem rmask_3 (w : World) :
    Calls Tryd.prog 15 #[.int .i64 3] w fun e w' => e = .returned (.int .u64 (maskI 3)) ∧ Kept w w' := by
  go_enter Tryd.func15, Tryd.ntmps15
  go_wp2
  go_ret
  exact ⟨rfl, Only.refl _ _⟩
set_option maxRecDepth 10000 in
theorem rmask_4 (w : World) :
    Calls Tryd.prog 15 #[.int .i64 4] w fun e w' => e = .returned (.int .u64 (maskI 4)) ∧ Kept w w' := by
  go_enter Tryd.func15, Tryd.ntmps15
  go_wp2
  go_ret
  exact ⟨rfl, Only.refl _ _⟩
set_option maxRecDepth 10000 in
theorem rmask_5 (w : World) :
    Calls Tryd.prog 15 #[.int .i64 5] w fun e w' => e = .returned (.int .u64 (maskI 5)) ∧ Kept w w' := by
  go_enter Tryd.func15, Tryd.ntmps15
  go_wp2
  go_ret
  exact ⟨rfl, Only.refl _ _⟩
set_option maxRecDepth 10000 in
theorem rmask_6 (w : World) :
    Calls Tryd.prog 15 #[.int .i64 6] w fun e w' => e = .returned (.int .u64 (maskI 6)) ∧ Kept w w' := by
  go_enter Tryd.func15, Tryd.ntmps15
  go_wp2
  go_ret
  exact ⟨rfl, Only.refl _ _⟩
set_option maxRecDepth 10000 in
theorem rmask_7 (w : World) :
    Calls Tryd.prog 15 #[.int .i64 7] w fun e w' => e = .returned (.int .u64 (maskI 7)) ∧ Kept w w' := by
  go_enter Tryd.func15, Tryd.ntmps15
  go_wp2
  go_ret
  exact ⟨rfl, Only.refl _ _⟩
set_option maxRecDepth 10000 in
theorem rmask_8 (w : World) :
    Calls Tryd.prog 15 #[.int .i64 8] w fun e w' => e = .returned (.int .u64 (maskI 8)) ∧ Kept w w' := by
  go_enter Tryd.func15, Tryd.ntmps15
  go_wp2
  go_ret
  exact ⟨rfl, Only.refl _ _⟩
set_option maxRecDepth 10000 in
theorem rmask_9 (w : World) :
    Calls Tryd.prog 15 #[.int .i64 9] w fun e w' => e = .returned (.int .u64 (maskI 9)) ∧ Kept w w' := by
  go_enter Tryd.func15, Tryd.ntmps15
  go_wp2
  go_ret
  exact ⟨rfl, Only.refl _ _⟩
set_option maxRecDepth 10000 in
theorem rmask_10 (w : World) :
    Calls Tryd.prog 15 #[.int .i64 10] w fun e w' => e = .returned (.int .u64 (maskI 10)) ∧ Kept w w' := by
  go_enter Tryd.func15, Tryd.ntmps15
  go_wp2
  go_ret
  exact ⟨rfl, Only.refl _ _⟩
set_option maxRecDepth 10000 in
theorem rmask_11 (w : World) :
    Calls Tryd.prog 15 #[.int .i64 11] w fun e w' => e = .returned (.int .u64 (maskI 11)) ∧ Kept w w' := by
  go_enter Tryd.func15, Tryd.ntmps15
  go_wp2
  go_ret
  exact ⟨rfl, Only.refl _ _⟩
set_option maxRecDepth 10000 in
theorem rmask_12 (w : World) :
    Calls Tryd.prog 15 #[.int .i64 12] w fun e w' => e = .returned (.int .u64 (maskI 12)) ∧ Kept w w' := by
  go_enter Tryd.func15, Tryd.ntmps15
  go_wp2
  go_ret
  exact ⟨rfl, Only.refl _ _⟩
set_option maxRecDepth 10000 in
theorem rmask_13 (w : World) :
    Calls Tryd.prog 15 #[.int .i64 13] w fun e w' => e = .returned (.int .u64 (maskI 13)) ∧ Kept w w' := by
  go_enter Tryd.func15, Tryd.ntmps15
  go_wp2
  go_ret
  exact ⟨rfl, Only.refl _ _⟩
set_option maxRecDepth 10000 in
theorem rmask_14 (w : World) :
    Calls Tryd.prog 15 #[.int .i64 14] w fun e w' => e = .returned (.int .u64 (maskI 14)) ∧ Kept w w' := by
  go_enter Tryd.func15, Tryd.ntmps15
  go_wp2
  go_ret
  exact ⟨rfl, Only.refl _ _⟩
set_option maxRecDepth 10000 in
theorem rmask_15 (w : World) :
    Calls Tryd.prog 15 #[.int .i64 15] w fun e w' => e = .returned (.int .u64 (maskI 15)) ∧ Kept w w' := by
  go_enter Tryd.func15, Tryd.ntmps15
  go_wp2
  go_ret
  exact ⟨rfl, Only.refl _ _⟩
set_option maxRecDepth 10000 in
theorem rmask_16 (w : World) :
    Calls Tryd.prog 15 #[.int .i64 16] w fun e w' => e = .returned (.int .u64 (maskI 16)) ∧ Kept w w' := by
  have hv : orL [6, 7, 8, 9, 20, 21, 22] = maskI 16 := by decide +kernel
  go_enter Tryd.func15, Tryd.ntmps15
  go_wp2_with fail
  refine (rbits_any8 [6, 7, 8, 9, 20, 21, 22] (by decide) (by decide) _ _ _ (fun j x hx => cells_at _ _ _ j _ (by
    have e : (([6, 7, 8, 9, 20, 21, 22] : List Nat).map fun (i : Nat) => Value.int .i64 (i : Int))[j]? = some (.int .i64 (x : Int)) := by rw [List.getElem?_map, hx]; rfl
    rw [← List.getElem?_toArray] at e
    exact e))).mono ?_
  rintro e w1 ⟨rfl, rfl⟩
  rw [hv]
  go_wp2
  go_ret
  exact ⟨rfl, (Only.refl _ w).alloc _⟩
set_option maxRecDepth 10000 in
theorem rmask_17 (w : World) :
    Calls Tryd.prog 15 #[.int .i64 17] w fun e w' => e = .returned (.int .u64 (maskI 17)) ∧ Kept w w' := by
  have hv : orL [0, 1, 2, 3, 4, 5, 6, 7, 8, 12, 13, 15] = maskI 17 := by decide +kernel
  go_enter Tryd.func15, Tryd.ntmps15
  go_wp2_with fail
  refine (rbits_any8 [0, 1, 2, 3, 4, 5, 6, 7, 8, 12, 13, 15] (by decide) (by decide) _ _ _ (fun j x hx => cells_at _ _ _ j _ (by
    have e : (([0, 1, 2, 3, 4, 5, 6, 7, 8, 12, 13, 15] : List Nat).map fun (i : Nat) => Value.int .i64 (i : Int))[j]? = some (.int .i64 (x : Int)) := by rw [List.getElem?_map, hx]; rfl
    rw [← List.getElem?_toArray] at e
    exact e))).mono ?_
  rintro e w1 ⟨rfl, rfl⟩
  rw [hv]
  go_wp2
  go_ret
  exact ⟨rfl, (Only.refl _ w).alloc _⟩
set_option maxRecDepth 10000 in
theorem rmask_18 (w : World) :
    Calls Tryd.prog 15 #[.int .i64 18] w fun e w' => e = .returned (.int .u64 (maskI 18)) ∧ Kept w w' := by
  go_enter Tryd.func15, Tryd.ntmps15
  go_wp2
  go_ret
  exact ⟨rfl, Only.refl _ _⟩
set_option maxRecDepth 10000 in
theorem rmask_19 (w : World) :
    Calls Tryd.prog 15 #[.int .i64 19] w fun e w' => e = .returned (.int .u64 (maskI 19)) ∧ Kept w w' := by
  go_enter Tryd.func15, Tryd.ntmps15
  go_wp2
  go_ret
  exact ⟨rfl, Only.refl _ _⟩
set_option maxRecDepth 10000 in
theorem rmask_20 (w : World) :
    Calls Tryd.prog 15 #[.int .i64 20] w fun e w' => e = .returned (.int .u64 (maskI 20)) ∧ Kept w w' := by
  go_enter Tryd.func15, Tryd.ntmps15
  go_wp2
  go_ret
  exact ⟨rfl, Only.refl _ _⟩
set_option maxRecDepth 10000 in
theorem rmask_21 (w : World) :
    Calls Tryd.prog 15 #[.int .i64 21] w fun e w' => e = .returned (.int .u64 (maskI 21)) ∧ Kept w w' := by
  go_enter Tryd.func15, Tryd.ntmps15
  go_wp2
  go_ret
  exact ⟨rfl, Only.refl _ _⟩
set_option maxRecDepth 10000 in
theorem rmask_22 (w : World) :
    Calls Tryd.prog 15 #[.int .i64 22] w fun e w' => e = .returned (.int .u64 (maskI 22)) ∧ Kept w w' := by
  go_enter Tryd.func15, Tryd.ntmps15
  go_wp2
  go_ret
  exact ⟨rfl, Only.refl _ _⟩
set_option maxRecDepth 10000 in
theorem rmask_23 (w : World) :
    Calls Tryd.prog 15 #[.int .i64 23] w fun e w' => e = .returned (.int .u64 (maskI 23)) ∧ Kept w w' := by
  go_enter Tryd.func15, Tryd.ntmps15
  go_wp2
  go_ret
  exact ⟨rfl, Only.refl _ _⟩
set_option maxRecDepth 10000 in
theorem rmask_24 (w : World) :
    Calls Tryd.prog 15 #[.int .i64 24] w fun e w' => e = .returned (.int .u64 (maskI 24)) ∧ Kept w w' := by
  go_enter Tryd.func15, Tryd.ntmps15
  go_wp2
  go_ret
  exact ⟨rfl, Only.refl _ _⟩
set_option maxRecDepth 10000 in
theorem rmask_25 (w : World) :
    Calls Tryd.prog 15 #[.int .i64 25] w fun e w' => e = .returned (.int .u64 (maskI 25)) ∧ Kept w w' := by
  go_enter Tryd.func15, Tryd.ntmps15
  go_wp2
  go_ret
  exact ⟨rfl, Only.refl _ _⟩
set_option maxRecDepth 10000 in
theorem rmask_26 (w : World) :
    Calls Tryd.prog 15 #[.int .i64 26] w fun e w' => e = .returned (.int .u64 (maskI 26)) ∧ Kept w w' := by
  go_enter Tryd.func15, Tryd.ntmps15
  go_wp2
  go_ret
  exact ⟨rfl, Only.refl _ _⟩
set_option maxRecDepth 10000 in
theorem rmask_27 (w : World) :
    Calls Tryd.prog 15 #[.int .i64 27] w fun e w' => e = .returned (.int .u64 (maskI 27)) ∧ Kept w w' := by
  go_enter Tryd.func15, Tryd.ntmps15
  go_wp2
  go_ret
  exact ⟨rfl, Only.refl _ _⟩
set_option maxRecDepth 10000 in
theorem rmask_28 (w : World) :
    Calls Tryd.prog 15 #[.int .i64 28] w fun e w' => e = .returned (.int .u64 (maskI 28)) ∧ Kept w w' := by
  go_enter Tryd.func15, Tryd.ntmps15
  go_wp2
  go_ret
  exact ⟨rfl, Only.refl _ _⟩
set_option maxRecDepth 10000 in
set_option maxHeartbeats 1000000 in
theorem rmask_no (i : Int) (h : ¬ (0 ≤ i ∧ i < 29)) (w : World) :
    Calls Tryd.prog 15 #[.int .i64 i] w fun e w' => e = .returned (.int .u64 (maskI i)) ∧ Kept w w' := by
  have hv : maskI i = 0 := by unfold maskI; rw [if_neg h]
  rw [hv]
  have m0 : (i == 0) = false := beq_eq_false_iff_ne.2 (by omega)
  have m1 : (i == 1) = false := beq_eq_false_iff_ne.2 (by omega)
  have m2 : (i == 2) = false := beq_eq_false_iff_ne.2 (by omega)
  have m3 : (i == 3) = false := beq_eq_false_iff_ne.2 (by omega)
  have m4 : (i == 4) = false := beq_eq_false_iff_ne.2 (by omega)
  have m5 : (i == 5) = false := beq_eq_false_iff_ne.2 (by omega)
  have m6 : (i == 6) = false := beq_eq_false_iff_ne.2 (by omega)
  have m7 : (i == 7) = false := beq_eq_false_iff_ne.2 (by omega)
  have m8 : (i == 8) = false := beq_eq_false_iff_ne.2 (by omega)
  have m9 : (i == 9) = false := beq_eq_false_iff_ne.2 (by omega)
  have m10 : (i == 10) = false := beq_eq_false_iff_ne.2 (by omega)
  have m11 : (i == 11) = false := beq_eq_false_iff_ne.2 (by omega)
  have m12 : (i == 12) = false := beq_eq_false_iff_ne.2 (by omega)
  have m13 : (i == 13) = false := beq_eq_false_iff_ne.2 (by omega)
  have m14 : (i == 14) = false := beq_eq_false_iff_ne.2 (by omega)
  have m15 : (i == 15) = false := beq_eq_false_iff_ne.2 (by omega)
  have m16 : (i == 16) = false := beq_eq_false_iff_ne.2 (by omega)
  have m17 : (i == 17) = false := beq_eq_false_iff_ne.2 (by omega)
  have m18 : (i == 18) = false := beq_eq_false_iff_ne.2 (by omega)
  have m19 : (i == 19) = false := beq_eq_false_iff_ne.2 (by omega)
  have m20 : (i == 20) = false := beq_eq_false_iff_ne.2 (by omega)
  have m21 : (i == 21) = false := beq_eq_false_iff_ne.2 (by omega)
  have m22 : (i == 22) = false := beq_eq_false_iff_ne.2 (by omega)
  have m23 : (i == 23) = false := beq_eq_false_iff_ne.2 (by omega)
  have m24 : (i == 24) = false := beq_eq_false_iff_ne.2 (by omega)
  have m25 : (i == 25) = false := beq_eq_false_iff_ne.2 (by omega)
  have m26 : (i == 26) = false := beq_eq_false_iff_ne.2 (by omega)
  have m27 : (i == 27) = false := beq_eq_false_iff_ne.2 (by omega)
  have m28 : (i == 28) = false := beq_eq_false_iff_ne.2 (by omega)
  by_cases h0 : i < 0
  all_goals
    go_enter Tryd.func15, Tryd.ntmps15
    go_wp2
    go_ret
    exact ⟨rfl, Only.refl _ _⟩
theorem rmask_any (i : Int) (w : World) :
    Calls Tryd.prog 15 #[.int .i64 i] w fun e w' => e = .returned (.int .u64 (maskI i)) ∧ Kept w w' := by
  by_cases h : 0 ≤ i ∧ i < 29
  · have hc : i = 0 ∨ i = 1 ∨ i = 2 ∨ i = 3 ∨ i = 4 ∨ i = 5 ∨ i = 6 ∨ i = 7 ∨ i = 8 ∨ i = 9 ∨ i = 10 ∨ i = 11 ∨ i = 12 ∨ i = 13 ∨ i = 14 ∨ i = 15 ∨ i = 16 ∨ i = 17 ∨ i = 18 ∨ i = 19 ∨ i = 20 ∨ i = 21 ∨ i = 22 ∨ i = 23 ∨ i = 24 ∨ i = 25 ∨ i = 26 ∨ i = 27 ∨ i = 28 := by omega
    rcases hc with rfl | rfl | rfl | rfl | rfl | rfl | rfl | rfl | rfl | rfl | rfl | rfl | rfl | rfl | rfl | rfl | rfl | rfl | rfl | rfl | rfl | rfl | rfl | rfl | rfl | rfl | rfl | rfl | rfl
    · exact rmask_0 w
    · exact rmask_1 w
    · exact rmask_2 w
    · exact rmask_3 w
    · exact rmask_4 w
    · exact rmask_5 w
    · exact rmask_6 w
    · exact rmask_7 w
    · exact rmask_8 w
    · exact rmask_9 w
    · exact rmask_10 w
    · exact rmask_11 w
    · exact rmask_12 w
    · exact rmask_13 w
    · exact rmask_14 w
    · exact rmask_15 w
    · exact rmask_16 w
    · exact rmask_17 w
    · exact rmask_18 w
    · exact rmask_19 w
    · exact rmask_20 w
    · exact rmask_21 w
    · exact rmask_22 w
    · exact rmask_23 w
    · exact rmask_24 w
    · exact rmask_25 w
    · exact rmask_26 w
    · exact rmask_27 w
    · exact rmask_28 w
  · exact rmask_no i h w
end Go.Proofs.YtkijdogckfpdpaaDoor
