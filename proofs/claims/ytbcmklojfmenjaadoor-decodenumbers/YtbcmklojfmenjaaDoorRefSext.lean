/-
  What the document's sext answers for the widths that words have (the reference of layers 3 and 4).
-/
import Derived.Test.YtbcmklojfmenjaaDoorRefIs
import Derived.Test.YtbcmklojfmenjaaDoorWord32
namespace Go.Proofs.YtbcmklojfmenjaaDoor
open Go.RowKit
set_option maxHeartbeats 1000000 in
theorem rsx_12 (v : Int) (h0 : 0 ≤ v) (h1 : v < 4096) (w : World) :
    Calls Tryd.prog 35 #[.int .u32 v, .int .i64 12] w fun e w' => e = .returned (.int .i64 (sgn v 2048)) ∧ w' = w := by
  have hm : bits .and .u64 v 4095 = v := by
    have := bits_mask .u64 64 (by decide) wraps_u64 12 (by decide) v h0 (by omega)
    rw [show ((2 : Int) ^ 12 - 1) = 4095 from rfl, show ((2 : Int) ^ 12) = 4096 from rfl] at this
    omega
  unfold sgn
  by_cases hl : v < 2048
  · have hb : (v / 2048 == 1) = false := by simp; omega
    rw [if_pos hl]
    go_enter Tryd.func35, Tryd.ntmps35
    go_wp2
    go_ret
    exact ⟨rfl, rfl⟩
  · have hb : (v / 2048 == 1) = true := by simp; omega
    have hx : IntKind.u64.wrap 75557863725914323415040 = 18446744073709547520 := by decide
    have ho : bits .or .u64 v 18446744073709547520 = v + 18446744073709547520 := bits_join_low .u64 64 (by decide) wraps_u64 12 v _ h0 (by omega) (by omega) (by decide) (by decide) (by decide)
    rw [if_neg hl]
    go_enter Tryd.func35, Tryd.ntmps35
    go_wp2
    go_ret
    refine ⟨ret_int ?_, rfl⟩
    go_light
    unfold wrap64
    omega
set_option maxHeartbeats 1000000 in
theorem rsx_13 (v : Int) (h0 : 0 ≤ v) (h1 : v < 8192) (w : World) :
    Calls Tryd.prog 35 #[.int .u32 v, .int .i64 13] w fun e w' => e = .returned (.int .i64 (sgn v 4096)) ∧ w' = w := by
  have hm : bits .and .u64 v 8191 = v := by
    have := bits_mask .u64 64 (by decide) wraps_u64 13 (by decide) v h0 (by omega)
    rw [show ((2 : Int) ^ 13 - 1) = 8191 from rfl, show ((2 : Int) ^ 13) = 8192 from rfl] at this
    omega
  unfold sgn
  by_cases hl : v < 4096
  · have hb : (v / 4096 == 1) = false := by simp; omega
    rw [if_pos hl]
    go_enter Tryd.func35, Tryd.ntmps35
    go_wp2
    go_ret
    exact ⟨rfl, rfl⟩
  · have hb : (v / 4096 == 1) = true := by simp; omega
    have hx : IntKind.u64.wrap 151115727451828646830080 = 18446744073709543424 := by decide
    have ho : bits .or .u64 v 18446744073709543424 = v + 18446744073709543424 := bits_join_low .u64 64 (by decide) wraps_u64 13 v _ h0 (by omega) (by omega) (by decide) (by decide) (by decide)
    rw [if_neg hl]
    go_enter Tryd.func35, Tryd.ntmps35
    go_wp2
    go_ret
    refine ⟨ret_int ?_, rfl⟩
    go_light
    unfold wrap64
    omega
set_option maxHeartbeats 1000000 in
theorem rsx_21 (v : Int) (h0 : 0 ≤ v) (h1 : v < 2097152) (w : World) :
    Calls Tryd.prog 35 #[.int .u32 v, .int .i64 21] w fun e w' => e = .returned (.int .i64 (sgn v 1048576)) ∧ w' = w := by
  have hm : bits .and .u64 v 2097151 = v := by
    have := bits_mask .u64 64 (by decide) wraps_u64 21 (by decide) v h0 (by omega)
    rw [show ((2 : Int) ^ 21 - 1) = 2097151 from rfl, show ((2 : Int) ^ 21) = 2097152 from rfl] at this
    omega
  unfold sgn
  by_cases hl : v < 1048576
  · have hb : (v / 1048576 == 1) = false := by simp; omega
    rw [if_pos hl]
    go_enter Tryd.func35, Tryd.ntmps35
    go_wp2
    go_ret
    exact ⟨rfl, rfl⟩
  · have hb : (v / 1048576 == 1) = true := by simp; omega
    have hx : IntKind.u64.wrap 38685626227668133588500480 = 18446744073707454464 := by decide
    have ho : bits .or .u64 v 18446744073707454464 = v + 18446744073707454464 := bits_join_low .u64 64 (by decide) wraps_u64 21 v _ h0 (by omega) (by omega) (by decide) (by decide) (by decide)
    rw [if_neg hl]
    go_enter Tryd.func35, Tryd.ntmps35
    go_wp2
    go_ret
    refine ⟨ret_int ?_, rfl⟩
    go_light
    unfold wrap64
    omega
set_option maxHeartbeats 1000000 in
theorem rsx_32 (v : Int) (h0 : 0 ≤ v) (h1 : v < 4294967296) (w : World) :
    Calls Tryd.prog 35 #[.int .u32 v, .int .i64 32] w fun e w' => e = .returned (.int .i64 (sgn v 2147483648)) ∧ w' = w := by
  have hm : bits .and .u64 v 4294967295 = v := by
    have := bits_mask .u64 64 (by decide) wraps_u64 32 (by decide) v h0 (by omega)
    rw [show ((2 : Int) ^ 32 - 1) = 4294967295 from rfl, show ((2 : Int) ^ 32) = 4294967296 from rfl] at this
    omega
  unfold sgn
  by_cases hl : v < 2147483648
  · have hb : (v / 2147483648 == 1) = false := by simp; omega
    rw [if_pos hl]
    go_enter Tryd.func35, Tryd.ntmps35
    go_wp2
    go_ret
    exact ⟨rfl, rfl⟩
  · have hb : (v / 2147483648 == 1) = true := by simp; omega
    have hx : IntKind.u64.wrap 79228162514264337589248983040 = 18446744069414584320 := by decide
    have ho : bits .or .u64 v 18446744069414584320 = v + 18446744069414584320 := bits_join_low .u64 64 (by decide) wraps_u64 32 v _ h0 (by omega) (by omega) (by decide) (by decide) (by decide)
    rw [if_neg hl]
    go_enter Tryd.func35, Tryd.ntmps35
    go_wp2
    go_ret
    refine ⟨ret_int ?_, rfl⟩
    go_light
    unfold wrap64
    omega
end Go.Proofs.YtbcmklojfmenjaaDoor
