/-
  Who may, as the document's own rules answer it (kept, Csr of the reference): walked whole, for every argument.
-/
import Derived.Test.YthmanpfooegbcaaDoorRefLeg
namespace Go.Proofs.YthmanpfooegbcaaDoor
open Go.RowKit
theorem rbit_0 {S : StM} (hS : S.Ok) {k : Nat} (hk : k < 64) (w : World) :
    Calls Tryd.prog 26 #[.agg (rowOf 65 (stF S)), .int .i64 0, .int .i64 (k : Int)] w fun e w' => e = .returned (.bool (bitB (S.C 0) k)) ∧ Kept w w' := rbit_any hS (i := 0) (by omega) hk w
theorem rbit_16 {S : StM} (hS : S.Ok) {k : Nat} (hk : k < 64) (w : World) :
    Calls Tryd.prog 26 #[.agg (rowOf 65 (stF S)), .int .i64 16, .int .i64 (k : Int)] w fun e w' => e = .returned (.bool (bitB (S.C 16) k)) ∧ Kept w w' := rbit_any hS (i := 16) (by omega) hk w
set_option maxRecDepth 10000 in
set_option maxHeartbeats 1000000 in
theorem rkept_any {S : StM} (hS : S.Ok) {k : Nat} (hk : k < 64) (w : World) :
    Calls Tryd.prog 35 #[.agg (rowOf 65 (stF S)), .int .i64 (lvlI S), .int .i64 (k : Int)] w fun e w' => e = .returned (.tuple #[.int .u64 (kepC S k), .bool (kepC S k == 0)]) ∧ Kept w w' := by
  have h1 := st_new w S
  have hk0 : Kept w (w.alloc (.cells (rowOf 65 (stF S)) 26)) := (Only.refl _ w).alloc _
  rcases lvl_ways S with hl | hl | hl | hl | hl
  · have hr : kepC S k = 2 := by unfold kepC; rw [hl]; rfl
    rw [hr, hl]
    go_enter Tryd.func35, Tryd.ntmps35
    go_wp2
    go_ret2
    exact ⟨rfl, hk0⟩
  · cases hb : bitB (S.C 0) k
    · have hr : kepC S k = 0 := by unfold kepC; rw [hl, hb]; rfl
      rw [hr, hl]
      go_enter Tryd.func35, Tryd.ntmps35
      go_wp2_with (refine wpList_load_is (by rfl) 26 _ rfl rfl h1 _ Tryd.underlying26 rfl st_size ?_)
      refine (rbit_0 hS hk _).mono ?_
      rintro e w1 ⟨rfl, k1⟩
      rw [hb]
      go_wp2
      go_ret2
      exact ⟨rfl, kept_boxed k1⟩
    · have hr : kepC S k = 2 := by unfold kepC; rw [hl, hb]; rfl
      rw [hr, hl]
      go_enter Tryd.func35, Tryd.ntmps35
      go_wp2_with (refine wpList_load_is (by rfl) 26 _ rfl rfl h1 _ Tryd.underlying26 rfl st_size ?_)
      refine (rbit_0 hS hk _).mono ?_
      rintro e w1 ⟨rfl, k1⟩
      rw [hb]
      go_wp2
      go_ret2
      exact ⟨rfl, kept_boxed k1⟩
  · have hr : kepC S k = 0 := by unfold kepC; rw [hl]; rfl
    rw [hr, hl]
    go_enter Tryd.func35, Tryd.ntmps35
    go_wp2
    go_ret2
    exact ⟨rfl, hk0⟩
  · have hr : kepC S k = 22 := by unfold kepC; rw [hl]; rfl
    rw [hr, hl]
    go_enter Tryd.func35, Tryd.ntmps35
    go_wp2
    go_ret2
    exact ⟨rfl, hk0⟩
  · cases hb : bitB (S.C 16) k
    · have hr : kepC S k = 0 := by unfold kepC; rw [hl, hb]; rfl
      rw [hr, hl]
      go_enter Tryd.func35, Tryd.ntmps35
      go_wp2_with (refine wpList_load_is (by rfl) 26 _ rfl rfl h1 _ Tryd.underlying26 rfl st_size ?_)
      refine (rbit_16 hS hk _).mono ?_
      rintro e w1 ⟨rfl, k1⟩
      rw [hb]
      go_wp2
      go_ret2
      exact ⟨rfl, kept_boxed k1⟩
    · have hr : kepC S k = 22 := by unfold kepC; rw [hl, hb]; rfl
      rw [hr, hl]
      go_enter Tryd.func35, Tryd.ntmps35
      go_wp2_with (refine wpList_load_is (by rfl) 26 _ rfl rfl h1 _ Tryd.underlying26 rfl st_size ?_)
      refine (rbit_16 hS hk _).mono ?_
      rintro e w1 ⟨rfl, k1⟩
      rw [hb]
      go_wp2
      go_ret2
      exact ⟨rfl, kept_boxed k1⟩
end Go.Proofs.YthmanpfooegbcaaDoor
