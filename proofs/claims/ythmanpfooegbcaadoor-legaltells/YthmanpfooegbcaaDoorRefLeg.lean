/-
  Who may, as the document's own rules answer it (Level, Bit, need, kept of the reference): walked whole, for every argument.
-/
import Derived.Test.YthmanpfooegbcaaDoorLegDoc
import Derived.Deep.QuietTactic
import Derived.BigQuiet
namespace Go.Proofs.YthmanpfooegbcaaDoor
open Go.RowKit
set_option maxRecDepth 10000 in
set_option maxHeartbeats 1000000 in
theorem rlevel_any (S : StM) (w : World) :
    Calls Tryd.prog 15 #[.agg (rowOf 65 (stF S))] w fun e w' => e = .returned (.int .i64 (lvlI S)) ∧ Kept w w' := by
  have c1 := st_lvl (st_new w S)
  have c2 := st_v (st_new w S)
  have hk : Kept w (w.alloc (.cells (rowOf 65 (stF S)) 26)) := (Only.refl _ w).alloc _
  unfold lvlI
  by_cases h0 : S.lvl = 0
  · rw [if_pos (.inl h0), h0]
    rw [h0] at c1
    cases hv : S.v
    all_goals
      rw [hv] at c2
      go_enter Tryd.func15, Tryd.ntmps15
      go_wp2
      go_ret
      exact ⟨rfl, hk⟩
  · by_cases h1 : S.lvl = 1
    · rw [if_pos (.inr h1), h1]
      rw [h1] at c1
      cases hv : S.v
      all_goals
        rw [hv] at c2
        go_enter Tryd.func15, Tryd.ntmps15
        go_wp2
        go_ret
        exact ⟨rfl, hk⟩
    · rw [if_neg (by rintro (h | h); exact h0 h; exact h1 h)]
      have d0 : (S.lvl != 0) = true := bne_iff_ne.2 h0
      have d1 : (S.lvl != 1) = true := bne_iff_ne.2 h1
      go_enter Tryd.func15, Tryd.ntmps15
      go_wp2
      go_ret
      exact ⟨rfl, hk⟩
set_option maxRecDepth 10000 in
set_option maxHeartbeats 1000000 in
theorem rbit_any {S : StM} (hS : S.Ok) {i k : Nat} (hi : i < 29) (hk : k < 64) (w : World) :
    Calls Tryd.prog 26 #[.agg (rowOf 65 (stF S)), .int .i64 (i : Int), .int .i64 (k : Int)] w fun e w' => e = .returned (.bool (bitB (S.C i) k)) ∧ Kept w w' := by
  have c1 := (st_new w S).c hi
  have l0 : (0 : Int) ≤ (i : Int) := by omega
  have l1 : (i : Int) < 29 := by omega
  have k0 : (0 : Int) ≤ (k : Int) := by omega
  have k1 : (k : Int) < 64 := by omega
  have u0 := (hS.C i hi).1
  go_enter Tryd.func26, Tryd.ntmps26
  go_wp2
  go_ret
  exact ⟨rfl, (Only.refl _ w).alloc _⟩
theorem rneed_any (b : Bool) (w : World) :
    Calls Tryd.prog 27 #[.bool b] w fun e w' => e = .returned (.tuple #[.int .u64 (bif b then 0 else 2), .bool b]) ∧ w' = w := by
  cases b
  all_goals
    go_enter Tryd.func27, Tryd.ntmps27
    go_wp2
    go_ret2
    exact ⟨rfl, rfl⟩
end Go.Proofs.YthmanpfooegbcaaDoor
