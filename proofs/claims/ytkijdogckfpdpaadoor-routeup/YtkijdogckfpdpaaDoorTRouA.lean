/-
  What package route's calls answer: walked whole, for every argument, where the listed table's cells stand.
-/
import Derived.Test.YtkijdogckfpdpaaDoorRouDoc
import Derived.Test.YtkijdogckfpdpaaDoorRefCsr4
import Derived.Laws.ResultCell
import Derived.Deep.WholeRow
import Derived.Deep.RegionHeld3
import Derived.BigFrame
namespace Go.Proofs.YtkijdogckfpdpaaDoor
open Go.RowKit
def hasB (v b : Int) : Bool := decide (b ≤ 63) && tb v b.toNat
theorem and_nought : bits .and .u64 0 1 = 0 := by kernel_rfl
theorem has_is {v b : Int} (hv : U v) (h0 : 0 ≤ b) : (bits .and .u64 (v / 2 ^ min b.toNat 64) 1 != 0) = hasB v b := by
  unfold hasB
  by_cases h : b ≤ 63
  · rw [decide_eq_true h, Bool.true_and, Nat.min_eq_left (by omega), and_one hv]
    cases tb v b.toNat <;> rfl
  · rw [decide_eq_false h, Bool.false_and, Nat.min_eq_right (by omega), Int.ediv_eq_zero_of_lt hv.1 (by have := hv.2; omega), and_nought]
    rfl
theorem has_at {v : Int} {k : Nat} (h : k < 64) : hasB v (k : Int) = tb v k := by
  unfold hasB
  rw [decide_eq_true (by omega), Bool.true_and, Int.toNat_natCast]
set_option maxHeartbeats 1000000 in
theorem rthas_any {v b : Int} (hv : U v) (hb : U b) (w : World) :
    Calls Tryd.prog 17 #[.int .u64 v, .int .u64 b] w fun e w' => e = .returned (.bool (hasB v b)) ∧ w' = w := by
  have b0 := hb.1
  have hx := has_is hv b0
  go_enter Tryd.func17, Tryd.ntmps17
  go_wp2
  go_ret
  exact ⟨by rw [← hx]; rfl, rfl⟩
def letB (l x : Int) : Bool := (l == 0) || ((l == 1) && tb x 1)
/-- The levels that there are; nobody's guest is the machine. -/
structure LvO (S : StM) : Prop where
  l : S.lvl = 0 ∨ S.lvl = 1 ∨ (S.lvl = 3 ∧ S.v = false)
theorem U_1 : U 1 := by unfold U; omega
theorem U_3 : U 3 := by unfold U; omega
theorem rtlet_0 {x : Int} (w : World) :
    Calls Tryd.prog 24 #[.int .i64 0, .int .u64 x] w fun e w' => e = .returned (.bool true) ∧ w' = w := by
  go_enter Tryd.func24, Tryd.ntmps24
  go_wp2_with (first | go_skip | fail)
  go_ret
  exact ⟨rfl, rfl⟩
theorem rtlet_1 {x : Int} (hx : U x) (w : World) :
    Calls Tryd.prog 24 #[.int .i64 1, .int .u64 x] w fun e w' => e = .returned (.bool (tb x 1)) ∧ w' = w := by
  have hh : hasB x 1 = tb x 1 := has_at (k := 1) (by omega)
  go_enter Tryd.func24, Tryd.ntmps24
  go_wp2_with (first | go_skip | (go_at_call 17; refine (rthas_any hx U_1 _).mono ?_; rintro e w' ⟨rfl, rfl⟩; rw [hh]))
  go_ret
  exact ⟨rfl, rfl⟩
section
variable {w : World} {S : StM}
set_option maxRecDepth 10000 in
set_option maxHeartbeats 2000000 in
theorem rtmay_m (hS : S.Ok) (hL : LvO S) :
    Calls Tryd.prog 18 #[.agg (rowOf 65 (stF S)), .int .i64 3, .bool false] w fun e w' => e = .returned (.bool (mayM S)) ∧ Kept w w' := by
  have u0 : U (S.C 0) := hS.C 0 (by omega)
  have u22 : U (S.C 22) := hS.C 22 (by omega)
  have hh : hasB (S.C 0) 3 = tb (S.C 0) 3 := has_at (k := 3) (by omega)
  have h0 := st_new w S
  have k0 := (Only.refl (fun _ => False) w).alloc (.cells (rowOf 65 (stF S)) 26)
  have cl := st_lvl h0
  have cv := st_v h0
  have c0 := h0.c (i := 0) (by omega)
  have c22 := h0.c (i := 22) (by omega)
  unfold mayM
  rcases hL.l with hl | hl | ⟨hl, hv⟩
  · rw [hl] at cl
    rw [hl]
    go_enter Tryd.func18, Tryd.ntmps18
    go_upto_region 1 with fail
    generalize w.alloc (.cells (rowOf 65 (stF S)) 26) = w1 at *
    generalize w.heap.size = bb at *
    go_wp2_with (first | go_skip | (go_at_call 17; refine (rthas_any u0 U_3 _).mono ?_; rintro e w' ⟨rfl, rfl⟩; rw [hh]))
    go_ret
    exact ⟨by simp, k0⟩
  · rw [hl] at cl
    rw [hl]
    go_enter Tryd.func18, Tryd.ntmps18
    go_upto_region 1 with fail
    generalize w.alloc (.cells (rowOf 65 (stF S)) 26) = w1 at *
    generalize w.heap.size = bb at *
    go_wp2_with (first | go_skip | (go_at_call 17; refine (rthas_any u0 U_3 _).mono ?_; rintro e w' ⟨rfl, rfl⟩; rw [hh]))
    go_ret
    exact ⟨by simp, k0⟩
  · rw [hl] at cl
    rw [hl]
    rw [hv] at cv
    go_enter Tryd.func18, Tryd.ntmps18
    go_upto_region 1 with fail
    generalize w.alloc (.cells (rowOf 65 (stF S)) 26) = w1 at *
    generalize w.heap.size = bb at *
    go_wp2_with (first | go_skip | (go_at_call 17; refine (rthas_any u0 U_3 _).mono ?_; rintro e w' ⟨rfl, rfl⟩; rw [hh]))
    go_ret
    exact ⟨by simp, k0⟩
set_option maxRecDepth 10000 in
set_option maxHeartbeats 2000000 in
theorem rtmay_h (hS : S.Ok) (hL : LvO S) :
    Calls Tryd.prog 18 #[.agg (rowOf 65 (stF S)), .int .i64 1, .bool false] w fun e w' => e = .returned (.bool (mayH S)) ∧ Kept w w' := by
  have u0 : U (S.C 0) := hS.C 0 (by omega)
  have u22 : U (S.C 22) := hS.C 22 (by omega)
  have hh : hasB (S.C 0) 3 = tb (S.C 0) 3 := has_at (k := 3) (by omega)
  have h0 := st_new w S
  have k0 := (Only.refl (fun _ => False) w).alloc (.cells (rowOf 65 (stF S)) 26)
  have cl := st_lvl h0
  have cv := st_v h0
  have c0 := h0.c (i := 0) (by omega)
  have c22 := h0.c (i := 22) (by omega)
  unfold mayH
  rcases hL.l with hl | hl | ⟨hl, hv⟩
  · rw [hl] at cl
    rw [hl]
    cases hv : S.v
    all_goals
      rw [hv] at cv
      go_enter Tryd.func18, Tryd.ntmps18
      go_upto_region 1 with fail
      generalize w.alloc (.cells (rowOf 65 (stF S)) 26) = w1 at *
      generalize w.heap.size = bb at *
      go_wp2_with (first | go_skip | (go_at_call 24; refine (rtlet_0 _).mono ?_; rintro e w' ⟨rfl, rfl⟩))
      go_ret
      exact ⟨by simp, k0⟩
  · rw [hl] at cl
    rw [hl]
    cases hv : S.v
    all_goals
      rw [hv] at cv
      go_enter Tryd.func18, Tryd.ntmps18
      go_upto_region 1 with fail
      generalize w.alloc (.cells (rowOf 65 (stF S)) 26) = w1 at *
      generalize w.heap.size = bb at *
      go_wp2_with (first | go_skip | (go_at_call 24; refine (rtlet_1 u0 _).mono ?_; rintro e w' ⟨rfl, rfl⟩))
      go_ret
      exact ⟨by simp, k0⟩
  · rw [hl] at cl
    rw [hl]
    rw [hv] at cv
    rw [hv]
    go_enter Tryd.func18, Tryd.ntmps18
    go_upto_region 1 with fail
    generalize w.alloc (.cells (rowOf 65 (stF S)) 26) = w1 at *
    generalize w.heap.size = bb at *
    go_wp2_with (first | go_skip | (go_at_call 24; refine (rtlet_0 _).mono ?_; rintro e w' ⟨rfl, rfl⟩))
    go_ret
    exact ⟨by simp, k0⟩
set_option maxRecDepth 10000 in
set_option maxHeartbeats 2000000 in
theorem rtmay_g (hS : S.Ok) (hL : LvO S) :
    Calls Tryd.prog 18 #[.agg (rowOf 65 (stF S)), .int .i64 1, .bool true] w fun e w' => e = .returned (.bool (mayG S)) ∧ Kept w w' := by
  have u0 : U (S.C 0) := hS.C 0 (by omega)
  have u22 : U (S.C 22) := hS.C 22 (by omega)
  have hh : hasB (S.C 0) 3 = tb (S.C 0) 3 := has_at (k := 3) (by omega)
  have h0 := st_new w S
  have k0 := (Only.refl (fun _ => False) w).alloc (.cells (rowOf 65 (stF S)) 26)
  have cl := st_lvl h0
  have cv := st_v h0
  have c0 := h0.c (i := 0) (by omega)
  have c22 := h0.c (i := 22) (by omega)
  unfold mayG
  rcases hL.l with hl | hl | ⟨hl, hv⟩
  · rw [hl] at cl
    rw [hl]
    cases hv : S.v
    all_goals
      rw [hv] at cv
      go_enter Tryd.func18, Tryd.ntmps18
      go_upto_region 1 with fail
      generalize w.alloc (.cells (rowOf 65 (stF S)) 26) = w1 at *
      generalize w.heap.size = bb at *
      go_wp2_with (first | go_skip | (go_at_call 24; refine (rtlet_0 _).mono ?_; rintro e w' ⟨rfl, rfl⟩))
      go_ret
      exact ⟨by simp, k0⟩
  · rw [hl] at cl
    rw [hl]
    cases hv : S.v
    all_goals
      rw [hv] at cv
      go_enter Tryd.func18, Tryd.ntmps18
      go_upto_region 1 with fail
      generalize w.alloc (.cells (rowOf 65 (stF S)) 26) = w1 at *
      generalize w.heap.size = bb at *
      go_wp2_with (first | go_skip | (go_at_call 24; refine (rtlet_1 u22 _).mono ?_; rintro e w' ⟨rfl, rfl⟩))
      go_ret
      exact ⟨by simp, k0⟩
  · rw [hl] at cl
    rw [hl]
    rw [hv] at cv
    rw [hv]
    go_enter Tryd.func18, Tryd.ntmps18
    go_upto_region 1 with fail
    generalize w.alloc (.cells (rowOf 65 (stF S)) 26) = w1 at *
    generalize w.heap.size = bb at *
    go_wp2_with (first | go_skip | (go_at_call 24; refine (rtlet_0 _).mono ?_; rintro e w' ⟨rfl, rfl⟩))
    go_ret
    exact ⟨by simp, k0⟩
set_option maxRecDepth 10000 in
set_option maxHeartbeats 2000000 in
theorem rtexc_any0 (hS : S.Ok) {c : Int} (hc : U c) :
    Calls Tryd.prog 9 #[.agg (rowOf 65 (stF S)), .int .u64 c] w fun e w' => e = .returned (.tuple #[.int .i64 (excL S c), .bool (excV S c)]) ∧ Kept w w' := by
  have u1 : U (S.C 1) := hS.C 1 (by omega)
  have u17 : U (S.C 17) := hS.C 17 (by omega)
  have h0 := st_new w S
  have k0 := (Only.refl (fun _ => False) w).alloc (.cells (rowOf 65 (stF S)) 26)
  have cl := st_lvl h0
  have cv := st_v h0
  have c1 := h0.c (i := 1) (by omega)
  have c17 := h0.c (i := 17) (by omega)
  have eD : dwnB S c = (!(S.lvl == 3) && hasB (S.C 1) c) := rfl
  have eL : excL S c = bif dwnB S c then 1 else 3 := rfl
  have eV : excV S c = (dwnB S c && (S.v && tb (S.C 17) c.toNat)) := rfl
  have eV2 : dwnB S c = true → tb (S.C 17) c.toNat = hasB (S.C 17) c := by
    intro h
    unfold dwnB at h
    simp only [Bool.and_eq_true] at h
    unfold hasB
    rw [h.2.1, Bool.true_and]
  cases hl : (S.lvl == 3)
  · rw [hl] at eD
    cases hd : hasB (S.C 1) c
    · rw [hd] at eD
      rw [eL, eV, eD]
      clear eL eV eD eV2
      go_enter Tryd.func9, Tryd.ntmps9
      go_upto_region 1 with fail
      generalize w.alloc (.cells (rowOf 65 (stF S)) 26) = w1 at *
      generalize w.heap.size = bb at *
      go_wp2_with (first | go_skip | (go_at_call 17; refine (rthas_any u1 hc _).mono ?_; rintro e w' ⟨rfl, rfl⟩; rw [hd]))
      go_ret2
      exact ⟨rfl, k0⟩
    · rw [hd] at eD
      rw [eL, eV, eV2 (by rw [eD]; rfl), eD]
      clear eL eV eD eV2
      cases hv : S.v
      · rw [hv] at cv
        go_enter Tryd.func9, Tryd.ntmps9
        go_upto_region 1 with fail
        generalize w.alloc (.cells (rowOf 65 (stF S)) 26) = w1 at *
        generalize w.heap.size = bb at *
        go_wp2_with (first | go_skip | (go_at_call 17; refine (rthas_any u1 hc _).mono ?_; rintro e w' ⟨rfl, rfl⟩; rw [hd]))
        go_ret2
        exact ⟨rfl, k0⟩
      · rw [hv] at cv
        cases hg : hasB (S.C 17) c
        all_goals
          go_enter Tryd.func9, Tryd.ntmps9
          go_upto_region 1 with fail
          generalize w.alloc (.cells (rowOf 65 (stF S)) 26) = w1 at *
          generalize w.heap.size = bb at *
          go_wp2_with (first | go_skip | (go_at_call 17; refine (rthas_any u1 hc _).mono ?_; rintro e w' ⟨rfl, rfl⟩; rw [hd]) | (go_at_call 17; refine (rthas_any u17 hc _).mono ?_; rintro e w' ⟨rfl, rfl⟩; rw [hg]))
          go_ret2
          exact ⟨rfl, k0⟩
  · rw [hl] at eD
    rw [eL, eV, eD]
    clear eL eV eD eV2
    go_enter Tryd.func9, Tryd.ntmps9
    go_upto_region 1 with fail
    generalize w.alloc (.cells (rowOf 65 (stF S)) 26) = w1 at *
    generalize w.heap.size = bb at *
    go_wp2_with (first | go_skip | fail)
    go_ret2
    exact ⟨rfl, k0⟩
end
end Go.Proofs.YtkijdogckfpdpaaDoor
