/-
  The examples that every statement of layer 3 asks first (known) hold.
-/
import Derived.Test.YtbcmklojfmenjaaDoorDecAny
namespace Go.Proofs.YtbcmklojfmenjaaDoor
open Go.RowKit
theorem kA : xOp 10485907 = 22 ∧ xRd 10485907 = 1 ∧ xRs1 10485907 = 0 ∧ xRs2 10485907 = 0 ∧ xImm 10485907 = 10 ∧ xCsr 10485907 = 0 ∧ xE 10485907 = 0 := by decide +kernel
theorem kB : xOp 0 = 0 ∧ xRd 0 = 0 ∧ xRs1 0 = 0 ∧ xRs2 0 = 0 ∧ xImm 0 = 0 ∧ xCsr 0 = 0 ∧ xE 0 = 40 := by decide +kernel
theorem kC : (fmtI 21 == 83) = true ∧ (fmtI 0 == 45) = true := by decide +kernel
theorem kD : sameB 22 1 0 0 10 0 22 1 0 0 10 0 = true := by decide +kernel
set_option maxHeartbeats 2000000 in
theorem known_any (w : World) (hT : Tab w) :
    Calls Tryd.prog 8 #[] w fun e w' => e = .returned (.bool true) ∧ Grown w w' := by
  obtain ⟨a1, a2, a3, a4, a5, a6, a7⟩ := kA
  obtain ⟨b1, b2, b3, b4, b5, b6, b7⟩ := kB
  obtain ⟨f1, f2⟩ := kC
  have hd := kD
  have hq := eql_insn
  have hg := Grown.refl w
  go_enter Tryd.func8, Tryd.ntmps8
  go_wp2_with fail
  refine (decode_from hT hg 10485907 (by omega) (by omega)).mono ?_
  rintro e w1 ⟨rfl, hg⟩
  rw [a1, a2, a3, a4, a5, a6, a7]
  go_wp2_with fail
  have hT1 := (hT.grown hg).grown ((Grown.refl w1).alloc #[.int .i64 22, .int .i64 1, .int .i64 0, .int .i64 0, .int .i64 10, .int .i64 0] 25)
  have hg1 := Grown.refl (w1.alloc (.cells #[.int .i64 22, .int .i64 1, .int .i64 0, .int .i64 0, .int .i64 10, .int .i64 0] 25))
  refine (decode_from hT1 hg1 0 (by omega) (by omega)).mono ?_
  rintro e w2 ⟨rfl, hg1⟩
  rw [b1, b2, b3, b4, b5, b6, b7]
  obtain ⟨c0, c1, c2, c3, c4, c5⟩ := ((Six.new _ _ _ _ _ _ _ _).grown hg1).grown ((Grown.refl w2).alloc #[.int .i64 0, .int .i64 0, .int .i64 0, .int .i64 0, .int .i64 0, .int .i64 0] 25)
  have hT2 := (hT1.grown hg1).grown ((Grown.refl w2).alloc #[.int .i64 0, .int .i64 0, .int .i64 0, .int .i64 0, .int .i64 0, .int .i64 0] 25)
  have hg2 := Grown.refl (w2.alloc (.cells #[.int .i64 0, .int .i64 0, .int .i64 0, .int .i64 0, .int .i64 0, .int .i64 0] 25))
  go_wp2_with (first | (go_at_call 11; refine (opcode_any _ (by omega) (by omega) _).mono ?_; rintro e w' ⟨rfl, rfl⟩) | (go_at_call 12; refine (format_from hT2 hg2 _).mono ?_; rintro e w' ⟨rfl, hg2⟩))
  go_ret
  exact ⟨rfl, Grown.trans' hg (Grown.trans' ((Grown.refl _).alloc _ _) (Grown.trans' hg1 (Grown.trans' ((Grown.refl _).alloc _ _) hg2)))⟩
theorem known_from {W : World} (hT : Tab W) {w : World} (hg : Grown W w) :
    Calls Tryd.prog 8 #[] w fun e w' => e = .returned (.bool true) ∧ Grown W w' :=
  (known_any w (hT.grown hg)).mono fun _ _ h => ⟨h.1, Grown.trans' hg h.2⟩
theorem same_refl (a b c d e f : Int) : sameB a b c d e f a b c d e f = true := by unfold sameB; simp
end Go.Proofs.YtbcmklojfmenjaaDoor
