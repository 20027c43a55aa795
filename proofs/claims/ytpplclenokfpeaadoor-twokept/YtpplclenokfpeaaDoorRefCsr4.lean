/-
  What is written into the document's registers of control (Write of the reference): walked whole, for every argument.
-/
import Derived.Test.YtpplclenokfpeaaDoorStBase
import Derived.Deep.WholeRow
import Derived.Deep.RegionHeld3
namespace Go.Proofs.YtpplclenokfpeaaDoor
open Go.RowKit
def numL : List Int := [768, 770, 771, 772, 773, 832, 833, 834, 835, 843, 261, 320, 321, 322, 323, 384, 1536, 1538, 1539, 1605, 1603, 1664, 512, 517, 576, 577, 578, 579, 640]
def maskL : List Int := [824641853866, 15775231, 544, 1632, 18446744073709551612, 18446744073709551615, 18446744073709551612, 18446744073709551615, 18446744073709551615, 18446744073709551615, 18446744073709551612, 18446744073709551615, 18446744073709551612, 18446744073709551615, 18446744073709551615, 9223372036871487743, 7340992, 45567, 1088, 1088, 18446744073709551615, 9223372036871487743, 786722, 18446744073709551612, 18446744073709551615, 18446744073709551612, 18446744073709551615, 18446744073709551615, 9223372036871487743]
/-- The number of a register; -1 of none. -/
def numI (i : Int) : Int := if 0 ≤ i ∧ i < 29 then numL.getD i.toNat 0 else -1
/-- The register of a number; -1 of none. -/
def idxI (n : Int) : Int := match numL.findIdx? (· == n) with | some i => (i : Int) | none => -1
/-- The bits of a register that may be written; 0 of none. -/
def maskI (i : Int) : Int := if 0 ≤ i ∧ i < 29 then maskL.getD i.toNat 0 else 0
/-- v's bits within a mask, the others of what was there. -/
def putI (old v m : Int) : Int := bits .or .u64 (bits .andNot .u64 old m) (bits .and .u64 v m)
/-- Of MPP 2 becomes 0. -/
def mppI (v : Int) : Int := if bits .and .u64 (v / 2048) 3 = 2 then bits .andNot .u64 v 6144 else v
/-- What stands for a number in a guest. -/
def redI (n : Int) : Int := if n = 256 ∨ n = 260 ∨ n = 261 ∨ n = 320 ∨ n = 321 ∨ n = 322 ∨ n = 323 ∨ n = 384 then n + 256 else n
/-- What waits. -/
def penI (S : StM) (t l : Bool) : Int := bif l then bits .or .u64 (bif t then bits .or .u64 (S.C 19) 32 else S.C 19) 512 else (bif t then bits .or .u64 (S.C 19) 32 else S.C 19)
/-- What is read, and whether it is. -/
def rdC (S : StM) (n : Int) : Int := if 0 ≤ idxI n then S.C (idxI n).toNat else if n = 256 then bits .and .u64 (S.C 0) 786722 else if n = 260 then bits .and .u64 (S.C 3) 544 else if n = 516 then bits .and .u64 (S.C 3) 1088 / 2 else if n = 3074 then S.done else 0
def okC (n : Int) : Bool := decide (0 ≤ idxI n ∨ n = 256 ∨ n = 260 ∨ n = 516 ∨ n = 3074)
/-- What is written into a register. -/
def wrI (i : Nat) (old v : Int) : Int := if i = 0 then mppI (putI old v (maskI 0)) else putI old v (maskI (i : Int))
def wrS (S : StM) (n v : Int) : StM := if 0 ≤ idxI n then S.setC (idxI n).toNat (wrI (idxI n).toNat (S.C (idxI n).toNat) v) else if n = 256 then S.setC 0 (putI (S.C 0) v 786722) else if n = 260 then S.setC 3 (putI (S.C 3) v 544) else if n = 516 then S.setC 3 (putI (S.C 3) (v * 2 % 18446744073709551616) 1088) else S
theorem idx_yes {n : Int} (h : 0 ≤ idxI n) : ∃ i : Nat, i < 29 ∧ idxI n = i ∧ numI i = n ∧ ∀ j : Nat, j < i → numI j ≠ n := by
  unfold idxI at h ⊢
  cases hf : numL.findIdx? (· == n) with
  | none => rw [hf] at h; simp at h
  | some i =>
    obtain ⟨hi, hp, hno⟩ := List.findIdx?_eq_some_iff_getElem.1 hf
    have hi' : i < 29 := hi
    refine ⟨i, hi', rfl, ?_, fun j hj => ?_⟩
    · unfold numI
      rw [if_pos (by omega), Int.toNat_natCast, List.getD_eq_getElem?_getD, List.getElem?_eq_getElem hi]
      simpa using hp
    · have := hno j hj
      unfold numI
      rw [if_pos (by omega), Int.toNat_natCast, List.getD_eq_getElem?_getD, List.getElem?_eq_getElem (by omega)]
      simpa using this
theorem idx_no {n : Int} (h : ¬ 0 ≤ idxI n) : idxI n = -1 ∧ ∀ j : Nat, j < 29 → numI j ≠ n := by
  unfold idxI at h ⊢
  cases hf : numL.findIdx? (· == n) with
  | some i => rw [hf] at h; simp at h
  | none =>
    refine ⟨rfl, fun j hj => ?_⟩
    have hl : numL.length = 29 := rfl
    have hb := List.findIdx?_eq_none_iff.1 hf (numL[j]'(by rw [hl]; exact hj)) (List.getElem_mem _)
    unfold numI
    rw [if_pos (by omega), Int.toNat_natCast, List.getD_eq_getElem?_getD, List.getElem?_eq_getElem (by rw [hl]; exact hj), Option.getD_some]
    intro e
    rw [e] at hb
    simp at hb
theorem U_put (o v m : Int) : U (putI o v m) := U_wrap _
theorem U_mpp {v : Int} (h : U v) : U (mppI v) := by unfold mppI; split; exact U_wrap _; exact h
theorem U_wr (i : Nat) (o v : Int) : U (wrI i o v) := by unfold wrI; split; exact U_mpp (U_put _ _ _); exact U_put _ _ _
theorem StM.Ok.write {S : StM} (h : S.Ok) (n v : Int) : (wrS S n v).Ok := by
  unfold wrS
  split
  · exact h.setC _ (U_wr _ _ _)
  · split
    · exact h.setC _ (U_put _ _ _)
    · split
      · exact h.setC _ (U_put _ _ _)
      · split
        · exact h.setC _ (U_put _ _ _)
        · exact h
end Go.Proofs.YtpplclenokfpeaaDoor
namespace Go.Proofs.YtpplclenokfpeaaDoor
open Go.RowKit
def numA : Array Value := rowOf 29 (fun i => .int .i64 (numL.getD i 0))
def numZ : Array Value := #[.int .i64 0, .int .i64 0, .int .i64 0, .int .i64 0, .int .i64 0, .int .i64 0, .int .i64 0, .int .i64 0, .int .i64 0, .int .i64 0, .int .i64 0, .int .i64 0, .int .i64 0, .int .i64 0, .int .i64 0, .int .i64 0, .int .i64 0, .int .i64 0, .int .i64 0, .int .i64 0, .int .i64 0, .int .i64 0, .int .i64 0, .int .i64 0, .int .i64 0, .int .i64 0, .int .i64 0, .int .i64 0, .int .i64 0]
theorem one_num : numA.all (·.oneCell') = true := by decide +kernel
theorem same_num : numZ.size = numA.size := rfl
set_option maxHeartbeats 1000000 in
theorem rmpp_any (v : Int) (hv : U v) (w : World) :
    Calls Tryd.prog 27 #[.int .u64 v] w fun e w' => e = .returned (.int .u64 (mppI v)) ∧ w' = w := by
  have h0 := hv.1
  unfold mppI
  by_cases h : bits .and .u64 (v / 2048) 3 = 2
  · rw [if_pos h]
    have hb : (bits .and .u64 (v / 2048) 3 == 2) = true := by rw [h]; rfl
    go_enter Tryd.func27, Tryd.ntmps27
    go_wp2
    go_ret
    exact ⟨rfl, rfl⟩
  · rw [if_neg h]
    have hb : (bits .and .u64 (v / 2048) 3 == 2) = false := beq_eq_false_iff_ne.2 h
    go_enter Tryd.func27, Tryd.ntmps27
    go_wp2
    go_ret
    exact ⟨rfl, rfl⟩
end Go.Proofs.YtpplclenokfpeaaDoor
namespace Go.Proofs.YtpplclenokfpeaaDoor
open Go.RowKit
/-- The number with these bits. -/
def orL (l : List Nat) : Int := l.foldl (fun v i => bits .or .u64 v (2 ^ i)) 0
theorem orL_snoc (l : List Nat) (i : Nat) : orL (l ++ [i]) = bits .or .u64 (orL l) (2 ^ i) := by simp [orL]
theorem U_orL (l : List Nat) : U (orL l) := by
  rcases List.eq_nil_or_concat l with rfl | ⟨l, i, rfl⟩
  · unfold orL U; simp
  · rw [List.concat_eq_append, orL_snoc]; exact U_wrap _
theorem cells_at (w : World) (c : Array Value) (T : TypeId) (j : Nat) (v : Value) (h : c[j]? = some v) : (w.alloc (.cells c T)).cell? ⟨w.heap.size, j, none⟩ = some v := by
  have hb : (w.alloc (.cells c T)).heap[w.heap.size]? = some (.cells c T (0, 0)) := Go.Deep.blk_alloc_new w (.cells c T)
  rw [World.cell?, hb]
  exact h
set_option maxRecDepth 10000 in
set_option maxHeartbeats 1000000 in
theorem rbits_any8 (L : List Nat) (hL : ∀ i ∈ L, i < 64) (hn : L.length < 1000) (g c : Nat) (w : World) (hc : ∀ (j x : Nat), L[j]? = some x → w.cell? ⟨g, j, none⟩ = some (.int .i64 (x : Int))) :
    Calls Tryd.prog 48 #[.slice (some ⟨g, 0, none⟩) L.length c] w fun e w' => e = .returned (.int .u64 (orL L)) ∧ w' = w := by
  go_enter Tryd.func48, Tryd.ntmps48
  go_wp2
  go_loopw [3, 4] (fun v i wr => ∃ k : Nat, k ≤ L.length ∧ v = .int .u64 (orL (L.take k)) ∧ i = .int .i64 (k : Int) ∧ wr = w) (fun _ i _ => L.length - (intOf i).toNat)
  case atStart => exact ⟨0, Nat.zero_le _, rfl, rfl, rfl⟩
  case round =>
    obtain ⟨k, hk, rfl, rfl, rfl⟩ := hrel
    by_cases hlt : k < L.length
    · obtain ⟨x, hx⟩ : ∃ x, L[k]? = some x := ⟨_, List.getElem?_eq_getElem hlt⟩
      have hcell := hc k x hx
      have hx64 := hL x (List.mem_of_getElem? hx)
      have l0 : (0 : Int) ≤ (k : Int) := by omega
      have l1 : (k : Int) < (L.length : Int) := by omega
      have x0 : (0 : Int) ≤ (x : Int) := by omega
      have x1 : (x : Int) < 64 := by omega
      have hst : orL (L.take (k + 1)) = bits .or .u64 (orL (L.take k)) (2 ^ x) := by
        rw [show L.take (k + 1) = L.take k ++ L[k]?.toList from List.take_add_one, hx]
        exact orL_snoc _ _
      have hsh : IntKind.u64.wrap (2 ^ x) = 2 ^ x := by
        refine wrap_id ?_
        have h2 : (2 : Int) ^ x = ((2 ^ x : Nat) : Int) := by simp
        have h3 : 2 ^ x < 18446744073709551616 := Nat.lt_of_le_of_lt (Nat.pow_le_pow_right (by decide) (show x ≤ 63 by omega)) (by decide)
        rw [h2]
        generalize 2 ^ x = y at h3
        unfold U
        omega
      go_wp2
      refine ⟨⟨k + 1, by omega, ?_, by go_num, trivial⟩, by simp [intOf]; omega⟩
      have hxk : L[k] = x := by
        rw [List.getElem?_eq_getElem hlt] at hx
        exact Option.some.inj hx
      rw [hst, hxk, show IntKind.u64.wrap (x : Int) = (x : Int) from wrap_id (by unfold U; omega), Int.toNat_natCast, Nat.min_eq_left (by omega), hsh]
    · obtain rfl : k = L.length := by omega
      have l1 : ¬ (L.length : Int) < (L.length : Int) := by omega
      go_wp2
      go_ret
      exact ⟨rfl, rfl⟩
set_option maxRecDepth 10000 in
theorem rmask_0 (w : World) :
    Calls Tryd.prog 26 #[.int .i64 0] w fun e w' => e = .returned (.int .u64 (maskI 0)) ∧ Kept w w' := by
  have hv : orL [1, 3, 5, 7, 8, 11, 12, 18, 19, 20, 21, 22, 38, 39] = maskI 0 := by decide +kernel
  go_enter Tryd.func26, Tryd.ntmps26
  go_wp2_with fail
  refine (rbits_any8 [1, 3, 5, 7, 8, 11, 12, 18, 19, 20, 21, 22, 38, 39] (by decide) (by decide) _ _ _ (fun j x hx => cells_at _ _ _ j _ (by
    have e : (([1, 3, 5, 7, 8, 11, 12, 18, 19, 20, 21, 22, 38, 39] : List Nat).map fun (i : Nat) => Value.int .i64 (i : Int))[j]? = some (.int .i64 (x : Int)) := by rw [List.getElem?_map, hx]; rfl
    rw [← List.getElem?_toArray] at e
    exact e))).mono ?_
  rintro e w1 ⟨rfl, rfl⟩
  rw [hv]
  go_wp2
  go_ret
  exact ⟨rfl, (Only.refl _ w).alloc _⟩
set_option maxRecDepth 10000 in
theorem rmask_1 (w : World) :
    Calls Tryd.prog 26 #[.int .i64 1] w fun e w' => e = .returned (.int .u64 (maskI 1)) ∧ Kept w w' := by
  have hv : orL [0, 1, 2, 3, 4, 5, 6, 7, 8, 10, 12, 13, 15, 20, 21, 22, 23] = maskI 1 := by decide +kernel
  go_enter Tryd.func26, Tryd.ntmps26
  go_wp2_with fail
  refine (rbits_any8 [0, 1, 2, 3, 4, 5, 6, 7, 8, 10, 12, 13, 15, 20, 21, 22, 23] (by decide) (by decide) _ _ _ (fun j x hx => cells_at _ _ _ j _ (by
    have e : (([0, 1, 2, 3, 4, 5, 6, 7, 8, 10, 12, 13, 15, 20, 21, 22, 23] : List Nat).map fun (i : Nat) => Value.int .i64 (i : Int))[j]? = some (.int .i64 (x : Int)) := by rw [List.getElem?_map, hx]; rfl
    rw [← List.getElem?_toArray] at e
    exact e))).mono ?_
  rintro e w1 ⟨rfl, rfl⟩
  rw [hv]
  go_wp2
  go_ret
  exact ⟨rfl, (Only.refl _ w).alloc _⟩
set_option maxRecDepth 10000 in
theorem rmask_2 (w : World) :
    Calls Tryd.prog 26 #[.int .i64 2] w fun e w' => e = .returned (.int .u64 (maskI 2)) ∧ Kept w w' := by
  go_enter Tryd.func26, Tryd.ntmps26
  go_wp2
  go_ret
  exact ⟨rfl, Only.refl _ _⟩
set_option maxRecDepth 10000 in
theorem rmask_3 (w : World) :
    Calls Tryd.prog 26 #[.int .i64 3] w fun e w' => e = .returned (.int .u64 (maskI 3)) ∧ Kept w w' := by
  go_enter Tryd.func26, Tryd.ntmps26
  go_wp2
  go_ret
  exact ⟨rfl, Only.refl _ _⟩
set_option maxRecDepth 10000 in
theorem rmask_4 (w : World) :
    Calls Tryd.prog 26 #[.int .i64 4] w fun e w' => e = .returned (.int .u64 (maskI 4)) ∧ Kept w w' := by
  go_enter Tryd.func26, Tryd.ntmps26
  go_wp2
  go_ret
  exact ⟨rfl, Only.refl _ _⟩
set_option maxRecDepth 10000 in
theorem rmask_5 (w : World) :
    Calls Tryd.prog 26 #[.int .i64 5] w fun e w' => e = .returned (.int .u64 (maskI 5)) ∧ Kept w w' := by
  go_enter Tryd.func26, Tryd.ntmps26
  go_wp2
  go_ret
  exact ⟨rfl, Only.refl _ _⟩
set_option maxRecDepth 10000 in
theorem rmask_6 (w : World) :
    Calls Tryd.prog 26 #[.int .i64 6] w fun e w' => e = .returned (.int .u64 (maskI 6)) ∧ Kept w w' := by
  go_enter Tryd.func26, Tryd.ntmps26
  go_wp2
  go_ret
  exact ⟨rfl, Only.refl _ _⟩
set_option maxRecDepth 10000 in
theorem rmask_7 (w : World) :
    Calls Tryd.prog 26 #[.int .i64 7] w fun e w' => e = .returned (.int .u64 (maskI 7)) ∧ Kept w w' := by
  go_enter Tryd.func26, Tryd.ntmps26
  go_wp2
  go_ret
  exact ⟨rfl, Only.refl _ _⟩
set_option maxRecDepth 10000 in
theorem rmask_8 (w : World) :
    Calls Tryd.prog 26 #[.int .i64 8] w fun e w' => e = .returned (.int .u64 (maskI 8)) ∧ Kept w w' := by
  go_enter Tryd.func26, Tryd.ntmps26
  go_wp2
  go_ret
  exact ⟨rfl, Only.refl _ _⟩
set_option maxRecDepth 10000 in
theorem rmask_9 (w : World) :
    Calls Tryd.prog 26 #[.int .i64 9] w fun e w' => e = .returned (.int .u64 (maskI 9)) ∧ Kept w w' := by
  go_enter Tryd.func26, Tryd.ntmps26
  go_wp2
  go_ret
  exact ⟨rfl, Only.refl _ _⟩
set_option maxRecDepth 10000 in
theorem rmask_10 (w : World) :
    Calls Tryd.prog 26 #[.int .i64 10] w fun e w' => e = .returned (.int .u64 (maskI 10)) ∧ Kept w w' := by
  go_enter Tryd.func26, Tryd.ntmps26
  go_wp2
  go_ret
  exact ⟨rfl, Only.refl _ _⟩
set_option maxRecDepth 10000 in
theorem rmask_11 (w : World) :
    Calls Tryd.prog 26 #[.int .i64 11] w fun e w' => e = .returned (.int .u64 (maskI 11)) ∧ Kept w w' := by
  go_enter Tryd.func26, Tryd.ntmps26
  go_wp2
  go_ret
  exact ⟨rfl, Only.refl _ _⟩
set_option maxRecDepth 10000 in
theorem rmask_12 (w : World) :
    Calls Tryd.prog 26 #[.int .i64 12] w fun e w' => e = .returned (.int .u64 (maskI 12)) ∧ Kept w w' := by
  go_enter Tryd.func26, Tryd.ntmps26
  go_wp2
  go_ret
  exact ⟨rfl, Only.refl _ _⟩
set_option maxRecDepth 10000 in
theorem rmask_13 (w : World) :
    Calls Tryd.prog 26 #[.int .i64 13] w fun e w' => e = .returned (.int .u64 (maskI 13)) ∧ Kept w w' := by
  go_enter Tryd.func26, Tryd.ntmps26
  go_wp2
  go_ret
  exact ⟨rfl, Only.refl _ _⟩
set_option maxRecDepth 10000 in
theorem rmask_14 (w : World) :
    Calls Tryd.prog 26 #[.int .i64 14] w fun e w' => e = .returned (.int .u64 (maskI 14)) ∧ Kept w w' := by
  go_enter Tryd.func26, Tryd.ntmps26
  go_wp2
  go_ret
  exact ⟨rfl, Only.refl _ _⟩
set_option maxRecDepth 10000 in
theorem rmask_15 (w : World) :
    Calls Tryd.prog 26 #[.int .i64 15] w fun e w' => e = .returned (.int .u64 (maskI 15)) ∧ Kept w w' := by
  go_enter Tryd.func26, Tryd.ntmps26
  go_wp2
  go_ret
  exact ⟨rfl, Only.refl _ _⟩
set_option maxRecDepth 10000 in
theorem rmask_16 (w : World) :
    Calls Tryd.prog 26 #[.int .i64 16] w fun e w' => e = .returned (.int .u64 (maskI 16)) ∧ Kept w w' := by
  have hv : orL [6, 7, 8, 9, 20, 21, 22] = maskI 16 := by decide +kernel
  go_enter Tryd.func26, Tryd.ntmps26
  go_wp2_with fail
  refine (rbits_any8 [6, 7, 8, 9, 20, 21, 22] (by decide) (by decide) _ _ _ (fun j x hx => cells_at _ _ _ j _ (by
    have e : (([6, 7, 8, 9, 20, 21, 22] : List Nat).map fun (i : Nat) => Value.int .i64 (i : Int))[j]? = some (.int .i64 (x : Int)) := by rw [List.getElem?_map, hx]; rfl
    rw [← List.getElem?_toArray] at e
    exact e))).mono ?_
  rintro e w1 ⟨rfl, rfl⟩
  rw [hv]
  go_wp2
  go_ret
  exact ⟨rfl, (Only.refl _ w).alloc _⟩
set_option maxRecDepth 10000 in
theorem rmask_17 (w : World) :
    Calls Tryd.prog 26 #[.int .i64 17] w fun e w' => e = .returned (.int .u64 (maskI 17)) ∧ Kept w w' := by
  have hv : orL [0, 1, 2, 3, 4, 5, 6, 7, 8, 12, 13, 15] = maskI 17 := by decide +kernel
  go_enter Tryd.func26, Tryd.ntmps26
  go_wp2_with fail
  refine (rbits_any8 [0, 1, 2, 3, 4, 5, 6, 7, 8, 12, 13, 15] (by decide) (by decide) _ _ _ (fun j x hx => cells_at _ _ _ j _ (by
    have e : (([0, 1, 2, 3, 4, 5, 6, 7, 8, 12, 13, 15] : List Nat).map fun (i : Nat) => Value.int .i64 (i : Int))[j]? = some (.int .i64 (x : Int)) := by rw [List.getElem?_map, hx]; rfl
    rw [← List.getElem?_toArray] at e
    exact e))).mono ?_
  rintro e w1 ⟨rfl, rfl⟩
  rw [hv]
  go_wp2
  go_ret
  exact ⟨rfl, (Only.refl _ w).alloc _⟩
set_option maxRecDepth 10000 in
theorem rmask_18 (w : World) :
    Calls Tryd.prog 26 #[.int .i64 18] w fun e w' => e = .returned (.int .u64 (maskI 18)) ∧ Kept w w' := by
  go_enter Tryd.func26, Tryd.ntmps26
  go_wp2
  go_ret
  exact ⟨rfl, Only.refl _ _⟩
set_option maxRecDepth 10000 in
theorem rmask_19 (w : World) :
    Calls Tryd.prog 26 #[.int .i64 19] w fun e w' => e = .returned (.int .u64 (maskI 19)) ∧ Kept w w' := by
  go_enter Tryd.func26, Tryd.ntmps26
  go_wp2
  go_ret
  exact ⟨rfl, Only.refl _ _⟩
set_option maxRecDepth 10000 in
theorem rmask_20 (w : World) :
    Calls Tryd.prog 26 #[.int .i64 20] w fun e w' => e = .returned (.int .u64 (maskI 20)) ∧ Kept w w' := by
  go_enter Tryd.func26, Tryd.ntmps26
  go_wp2
  go_ret
  exact ⟨rfl, Only.refl _ _⟩
set_option maxRecDepth 10000 in
theorem rmask_21 (w : World) :
    Calls Tryd.prog 26 #[.int .i64 21] w fun e w' => e = .returned (.int .u64 (maskI 21)) ∧ Kept w w' := by
  go_enter Tryd.func26, Tryd.ntmps26
  go_wp2
  go_ret
  exact ⟨rfl, Only.refl _ _⟩
set_option maxRecDepth 10000 in
theorem rmask_22 (w : World) :
    Calls Tryd.prog 26 #[.int .i64 22] w fun e w' => e = .returned (.int .u64 (maskI 22)) ∧ Kept w w' := by
  go_enter Tryd.func26, Tryd.ntmps26
  go_wp2
  go_ret
  exact ⟨rfl, Only.refl _ _⟩
set_option maxRecDepth 10000 in
theorem rmask_23 (w : World) :
    Calls Tryd.prog 26 #[.int .i64 23] w fun e w' => e = .returned (.int .u64 (maskI 23)) ∧ Kept w w' := by
  go_enter Tryd.func26, Tryd.ntmps26
  go_wp2
  go_ret
  exact ⟨rfl, Only.refl _ _⟩
set_option maxRecDepth 10000 in
theorem rmask_24 (w : World) :
    Calls Tryd.prog 26 #[.int .i64 24] w fun e w' => e = .returned (.int .u64 (maskI 24)) ∧ Kept w w' := by
  go_enter Tryd.func26, Tryd.ntmps26
  go_wp2
  go_ret
  exact ⟨rfl, Only.refl _ _⟩
set_option maxRecDepth 10000 in
theorem rmask_25 (w : World) :
    Calls Tryd.prog 26 #[.int .i64 25] w fun e w' => e = .returned (.int .u64 (maskI 25)) ∧ Kept w w' := by
  go_enter Tryd.func26, Tryd.ntmps26
  go_wp2
  go_ret
  exact ⟨rfl, Only.refl _ _⟩
set_option maxRecDepth 10000 in
theorem rmask_26 (w : World) :
    Calls Tryd.prog 26 #[.int .i64 26] w fun e w' => e = .returned (.int .u64 (maskI 26)) ∧ Kept w w' := by
  go_enter Tryd.func26, Tryd.ntmps26
  go_wp2
  go_ret
  exact ⟨rfl, Only.refl _ _⟩
set_option maxRecDepth 10000 in
theorem rmask_27 (w : World) :
    Calls Tryd.prog 26 #[.int .i64 27] w fun e w' => e = .returned (.int .u64 (maskI 27)) ∧ Kept w w' := by
  go_enter Tryd.func26, Tryd.ntmps26
  go_wp2
  go_ret
  exact ⟨rfl, Only.refl _ _⟩
set_option maxRecDepth 10000 in
theorem rmask_28 (w : World) :
    Calls Tryd.prog 26 #[.int .i64 28] w fun e w' => e = .returned (.int .u64 (maskI 28)) ∧ Kept w w' := by
  go_enter Tryd.func26, Tryd.ntmps26
  go_wp2
  go_ret
  exact ⟨rfl, Only.refl _ _⟩
set_option maxRecDepth 10000 in
set_option maxHeartbeats 1000000 in
theorem rmask_no (i : Int) (h : ¬ (0 ≤ i ∧ i < 29)) (w : World) :
    Calls Tryd.prog 26 #[.int .i64 i] w fun e w' => e = .returned (.int .u64 (maskI i)) ∧ Kept w w' := by
  have hv : maskI i = 0 := by unfold maskI; rw [if_neg h]
  rw [hv]
  have m0 : (i == 0) = false := beq_eq_false_iff_ne.2 (by omega)
  have m1 : (i == 1) = false := beq_eq_false_iff_ne.2 (by omega)
  have m2 : (i == 2) = false := beq_eq_false_iff_ne.2 (by omega)
  have m3 : (i == 3) = false := beq_eq_false_iff_ne.2 (by omega)
  have m4 : (i == 4) = false := beq_eq_false_iff_ne.2 (by omega)
  have m5 : (i == 5) = false := beq_eq_false_iff_ne.2 (by omega)
  have m6 : (i == 6) = false := beq_eq_false_iff_ne.2 (by omega)
  have m7 : (i == 7) = false := beq_eq_false_iff_ne.2 (by omega)
  have m8 : (i == 8) = false := beq_eq_false_iff_ne.2 (by omega)
  have m9 : (i == 9) = false := beq_eq_false_iff_ne.2 (by omega)
  have m10 : (i == 10) = false := beq_eq_false_iff_ne.2 (by omega)
  have m11 : (i == 11) = false := beq_eq_false_iff_ne.2 (by omega)
  have m12 : (i == 12) = false := beq_eq_false_iff_ne.2 (by omega)
  have m13 : (i == 13) = false := beq_eq_false_iff_ne.2 (by omega)
  have m14 : (i == 14) = false := beq_eq_false_iff_ne.2 (by omega)
  have m15 : (i == 15) = false := beq_eq_false_iff_ne.2 (by omega)
  have m16 : (i == 16) = false := beq_eq_false_iff_ne.2 (by omega)
  have m17 : (i == 17) = false := beq_eq_false_iff_ne.2 (by omega)
  have m18 : (i == 18) = false := beq_eq_false_iff_ne.2 (by omega)
  have m19 : (i == 19) = false := beq_eq_false_iff_ne.2 (by omega)
  have m20 : (i == 20) = false := beq_eq_false_iff_ne.2 (by omega)
  have m21 : (i == 21) = false := beq_eq_false_iff_ne.2 (by omega)
  have m22 : (i == 22) = false := beq_eq_false_iff_ne.2 (by omega)
  have m23 : (i == 23) = false := beq_eq_false_iff_ne.2 (by omega)
  have m24 : (i == 24) = false := beq_eq_false_iff_ne.2 (by omega)
  have m25 : (i == 25) = false := beq_eq_false_iff_ne.2 (by omega)
  have m26 : (i == 26) = false := beq_eq_false_iff_ne.2 (by omega)
  have m27 : (i == 27) = false := beq_eq_false_iff_ne.2 (by omega)
  have m28 : (i == 28) = false := beq_eq_false_iff_ne.2 (by omega)
  by_cases h0 : i < 0
  all_goals
    go_enter Tryd.func26, Tryd.ntmps26
    go_wp2
    go_ret
    exact ⟨rfl, Only.refl _ _⟩
theorem rmask_any (i : Int) (w : World) :
    Calls Tryd.prog 26 #[.int .i64 i] w fun e w' => e = .returned (.int .u64 (maskI i)) ∧ Kept w w' := by
  by_cases h : 0 ≤ i ∧ i < 29
  · have hc : i = 0 ∨ i = 1 ∨ i = 2 ∨ i = 3 ∨ i = 4 ∨ i = 5 ∨ i = 6 ∨ i = 7 ∨ i = 8 ∨ i = 9 ∨ i = 10 ∨ i = 11 ∨ i = 12 ∨ i = 13 ∨ i = 14 ∨ i = 15 ∨ i = 16 ∨ i = 17 ∨ i = 18 ∨ i = 19 ∨ i = 20 ∨ i = 21 ∨ i = 22 ∨ i = 23 ∨ i = 24 ∨ i = 25 ∨ i = 26 ∨ i = 27 ∨ i = 28 := by omega
    rcases hc with rfl | rfl | rfl | rfl | rfl | rfl | rfl | rfl | rfl | rfl | rfl | rfl | rfl | rfl | rfl | rfl | rfl | rfl | rfl | rfl | rfl | rfl | rfl | rfl | rfl | rfl | rfl | rfl | rfl
    · exact rmask_0 w
    · exact rmask_1 w
    · exact rmask_2 w
    · exact rmask_3 w
    · exact rmask_4 w
    · exact rmask_5 w
    · exact rmask_6 w
    · exact rmask_7 w
    · exact rmask_8 w
    · exact rmask_9 w
    · exact rmask_10 w
    · exact rmask_11 w
    · exact rmask_12 w
    · exact rmask_13 w
    · exact rmask_14 w
    · exact rmask_15 w
    · exact rmask_16 w
    · exact rmask_17 w
    · exact rmask_18 w
    · exact rmask_19 w
    · exact rmask_20 w
    · exact rmask_21 w
    · exact rmask_22 w
    · exact rmask_23 w
    · exact rmask_24 w
    · exact rmask_25 w
    · exact rmask_26 w
    · exact rmask_27 w
    · exact rmask_28 w
  · exact rmask_no i h w
end Go.Proofs.YtpplclenokfpeaaDoor
namespace Go.Proofs.YtpplclenokfpeaaDoor
open Go.RowKit
theorem StAt.kept {w w' : World} {b : Nat} {S : StM} (h : StAt w b S) (g : Kept w w') : StAt w' b S := World.rowIs.of_block h (g.same b (World.rowIs.lt h) id)
theorem StAt.more {w : World} {b : Nat} {S : StM} (h : StAt w b S) (o : Obj) : StAt (w.alloc o) b S := World.rowIs.alloc h o
theorem kept_boxed {w w1 : World} {o : Obj} (g : Kept (w.alloc o) w1) : Kept w w1 := ((Only.refl _ w).alloc o).then g
theorem rdC_in {S : StM} {n : Int} {i : Nat} (h : idxI n = i) : rdC S n = S.C i ∧ okC n = true := by
  have h0 : 0 ≤ idxI n := by omega
  refine ⟨?_, decide_eq_true (.inl h0)⟩
  unfold rdC; rw [if_pos h0, h, Int.toNat_natCast]
theorem idx_256 : idxI 256 = -1 := by decide +kernel
theorem idx_260 : idxI 260 = -1 := by decide +kernel
theorem idx_516 : idxI 516 = -1 := by decide +kernel
theorem idx_3074 : idxI 3074 = -1 := by decide +kernel
section
variable {S : StM}
end
end Go.Proofs.YtpplclenokfpeaaDoor
namespace Go.Proofs.YtpplclenokfpeaaDoor
open Go.RowKit
theorem results_cell2 {fn : Func} {a : Tmp} {t : TypeId} {u : Tmp} (h : fn.results = #[.cell a t, .tmp u]) (tmps : Array Value) (P : Program) (w : World) (ad : Addr) (v : Value) (ha : tmps.getD a undef = .pointer (some ad)) (hl : (loadVar t ad).run P w = .ok v w) :
    (results fn tmps).run P w = .ok (.tuple #[v, tmps.getD u undef]) w := by
  have ha' : tmps[a]?.getD undef = .pointer (some ad) := by rw [← Array.getD_eq_getD_getElem?]; exact ha
  simp [results, h, ha', asAddr, hl]
theorem row_lit (w : World) (c : Array Value) (T : TypeId) : (w.alloc (.cells c T)).rowIs w.heap.size T c.size (fun i => c.getD i undef) :=
  World.rowIs_alloc w c T _ fun i hi => by simp [Array.getD, hi]
/-- A state that the call itself holds, and room for its answer. -/
structure TwoS (W w : World) (b r : Nat) (S : StM) : Prop where
  s : StAt w b S
  room : ∃ F, w.rowIs r 27 65 F
  k : Kept W w
  hb : W.heap.size ≤ b
  hr : W.heap.size ≤ r
  ne : b ≠ r
theorem TwoS.kept {W w w' : World} {b r : Nat} {S : StM} (h : TwoS W w b r S) (g : Kept w w') : TwoS W w' b r S := by
  obtain ⟨F, hF⟩ := h.room
  exact ⟨h.s.kept g, ⟨F, hF.of_block (g.same r hF.lt id)⟩, h.k.then g, h.hb, h.hr, h.ne⟩
theorem TwoS.drew {W w : World} {b r : Nat} {S : StM} (h : TwoS W w b r S) : TwoS W w.drew b r S := h.kept ((Only.refl _ w).drew)
theorem TwoS.set {W w : World} {b r : Nat} {S : StM} (h : TwoS W w b r S) {i : Nat} (hi : i < 29) (x : Int) : TwoS W (w.setCell ⟨b, 35 + i, none⟩ (.int .u64 x)) b r (S.setC i x) := by
  obtain ⟨F, hF⟩ := h.room
  exact ⟨h.s.set hi x, ⟨F, hF.setOther (a := ⟨b, 35 + i, none⟩) (Ne.symm h.ne) _⟩, h.k.new ((Only.refl (fun j => j = b) w).setCell (x := ⟨b, 35 + i, none⟩) rfl _) (fun j hj => by rw [hj]; exact h.hb), h.hb, h.hr, h.ne⟩
theorem TwoS.out {W w : World} {b r : Nat} {S : StM} (h : TwoS W w b r S) : StAt (w.setRow r (rowOf 65 (stF S))) r S ∧ Kept W (w.setRow r (rowOf 65 (stF S))) := by
  obtain ⟨F, hF⟩ := h.room
  exact ⟨row_stored hF _, h.k.new ((Only.refl (fun j => j = r) w).setRow rfl _) (fun j hj => by rw [hj]; exact h.hr)⟩
theorem load_state {w : World} {b : Nat} {S : StM} (h : StAt w b S) : (loadVar 27 ⟨b, 0, none⟩).run Tryd.prog w = .ok (.agg (rowOf 65 (stF S))) w :=
  load_row h _ Tryd.underlying27 rfl st_size
theorem two_new {w w1 : World} {S : StM} {c : Array Value} (hc : c.size = 65) (g : Kept ((w.alloc (.cells (rowOf 65 (stF S)) 27)).alloc (.cells c 27)) w1) : TwoS w w1 w.heap.size (w.heap.size + 1) S := by
  have h1 : StAt ((w.alloc (.cells (rowOf 65 (stF S)) 27)).alloc (.cells c 27)) w.heap.size S := World.rowIs.alloc (st_new w S) _
  have hn : (w.alloc (.cells (rowOf 65 (stF S)) 27)).heap.size = w.heap.size + 1 := Go.Deep.nblk_alloc _ _
  have h2 := row_lit (w.alloc (.cells (rowOf 65 (stF S)) 27)) c 27
  rw [hn, hc] at h2
  exact ⟨h1.kept g, ⟨_, h2.of_block (g.same _ h2.lt id)⟩, (((Only.refl _ w).alloc _).alloc _).then g, Nat.le_refl _, by omega, by omega⟩
/-- An empty state's cells. -/
def zF (i : Nat) : Value := stF ⟨fun _ => 0, 0, 0, false, fun _ => 0, 0⟩ i
theorem st_zero : (Tryd.prog.info? 27).map (fun i => i.zero.map (·.cells)) = some (some (rowOf 65 zF)) := by kernel_rfl
section
variable {S : StM}
end
end Go.Proofs.YtpplclenokfpeaaDoor
