/-
  What statement AluCsr asks: bits set and cleared of a register, walked for every argument.
-/
import Derived.Test.YtbeehnfmhclbmaaDoorAMath
namespace Go.Proofs.YtbeehnfmhclbmaaDoor
open Go.RowKit
set_option maxRecDepth 100000 in
set_option maxHeartbeats 4000000 in
theorem acsr_any (o v : Int) (ho : U o) (hv : U v) (w : World) (hT : Tab5 w) :
    Calls Tryd.prog 7 #[.int .u64 o, .int .u64 v] w fun e w' => e = .returned (.bool true) ∧ Grown w w' := by
  have f1 : (bits .and .u64 (csrI 55 o v) v == v) = true := yes_beq (csr_1 ho hv)
  have f2 : (bits .andNot .u64 (csrI 55 o v) v == bits .andNot .u64 o v) = true := yes_beq (csr_2 ho hv)
  have f3 : (bits .and .u64 (csrI 56 o v) v == 0) = true := yes_beq (csr_3 ho hv)
  have f4 : (bits .andNot .u64 (csrI 56 o v) v == bits .andNot .u64 o v) = true := yes_beq (csr_4 ho hv)
  have f5 : (csrI 54 o v == v) = true := yes_beq csr_w
  have f6 : (csrI 58 o v == csrI 55 o v) = true := yes_beq csr_si
  have f7 : (csrI 59 o v == csrI 56 o v) = true := yes_beq csr_ci
  have f8 : (csrI 35 o v == o) = true := yes_beq csr_no
  skip
  all_goals
    go_enter Tryd.func7, Tryd.ntmps7
    go_wp2_with fail
    refine (known5_any _ hT).mono ?_
    rintro e w1 ⟨rfl, hg1⟩
    go_wp2_with (first | (go_at_call 14; refine (csr_any _ _ _ _).mono ?_; rintro e w' ⟨rfl, rfl⟩))
    go_ret
    exact ⟨rfl, GG.g (by assumption)⟩
end Go.Proofs.YtbeehnfmhclbmaaDoor
