/-
  What the document's registers of control answer (Number, Index, put, Mpp, Redirect, Pending, bits, Mask of the reference): walked whole, for every argument.
-/
import Derived.Test.YtkijdogckfpdpaaDoorCsrDoc
import Derived.Deep.WholeRow
namespace Go.Proofs.YtkijdogckfpdpaaDoor
open Go.RowKit
def numA : Array Value := rowOf 29 (fun i => .int .i64 (numL.getD i 0))
def numZ : Array Value := #[.int .i64 0, .int .i64 0, .int .i64 0, .int .i64 0, .int .i64 0, .int .i64 0, .int .i64 0, .int .i64 0, .int .i64 0, .int .i64 0, .int .i64 0, .int .i64 0, .int .i64 0, .int .i64 0, .int .i64 0, .int .i64 0, .int .i64 0, .int .i64 0, .int .i64 0, .int .i64 0, .int .i64 0, .int .i64 0, .int .i64 0, .int .i64 0, .int .i64 0, .int .i64 0, .int .i64 0, .int .i64 0, .int .i64 0]
theorem one_num : numA.all (·.oneCell') = true := by decide +kernel
theorem same_num : numZ.size = numA.size := rfl
set_option maxHeartbeats 1000000 in
theorem rmpp_any (v : Int) (hv : U v) (w : World) :
    Calls Tryd.prog 16 #[.int .u64 v] w fun e w' => e = .returned (.int .u64 (mppI v)) ∧ w' = w := by
  have h0 := hv.1
  unfold mppI
  by_cases h : bits .and .u64 (v / 2048) 3 = 2
  · rw [if_pos h]
    have hb : (bits .and .u64 (v / 2048) 3 == 2) = true := by rw [h]; rfl
    go_enter Tryd.func16, Tryd.ntmps16
    go_wp2
    go_ret
    exact ⟨rfl, rfl⟩
  · rw [if_neg h]
    have hb : (bits .and .u64 (v / 2048) 3 == 2) = false := beq_eq_false_iff_ne.2 h
    go_enter Tryd.func16, Tryd.ntmps16
    go_wp2
    go_ret
    exact ⟨rfl, rfl⟩
end Go.Proofs.YtkijdogckfpdpaaDoor
