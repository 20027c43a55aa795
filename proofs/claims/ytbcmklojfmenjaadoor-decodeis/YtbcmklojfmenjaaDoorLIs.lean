/-
  sallyportlaw3.DecodeIs, walked whole: true for every word.
-/
import Derived.Test.YtbcmklojfmenjaaDoorKnown3
namespace Go.Proofs.YtbcmklojfmenjaaDoor
open Go.RowKit
/-- The opcode of an operation's words. -/
def ocI (op : Int) : Int := if fixI op = 0 then opcI op else fixI op % 128
theorem opc_hit {op v : Int} (h0 : 1 ≤ op) (h1 : op < 70) (h : hitB op v = true) : v % 128 = ocI op := by
  obtain ⟨hs, hi, he⟩ := hit_yes h
  unfold ocI
  by_cases hf : fixI op = 0
  · rw [if_pos hf]
    unfold skipB at hs
    rw [hf] at hs
    simp at hs
    exact hs.1
  · rw [if_neg hf]
    have hr : 50 ≤ op ∧ op ≤ 53 ∨ 60 ≤ op ∧ op ≤ 62 := by
      apply Classical.byContradiction
      intro hn
      exact hf (fix_none (by omega))
    rw [hit_fix op v hr] at h
    rw [eq_of_beq h]
theorem oc_ways (op : Int) : clsI op = 0 ∨ (clsI op = 1 ∧ (ocI op = 55 ∨ ocI op = 23 ∨ ocI op = 111 ∨ ocI op = 103)) ∨ (clsI op = 2 ∧ ocI op = 99) ∨ (clsI op = 3 ∧ ocI op = 3) ∨ (clsI op = 4 ∧ ocI op = 35) ∨ (clsI op = 5 ∧ (ocI op = 19 ∨ ocI op = 27)) ∨ (clsI op = 6 ∧ (ocI op = 51 ∨ ocI op = 59)) ∨ (clsI op = 7 ∧ ocI op = 15)
    ∨ ((clsI op = 8 ∨ clsI op = 9 ∨ clsI op = 10 ∨ clsI op = 11 ∨ clsI op = 12) ∧ ocI op = 115) :=
  op_cases (p := fun op => clsI op = 0 ∨ (clsI op = 1 ∧ (ocI op = 55 ∨ ocI op = 23 ∨ ocI op = 111 ∨ ocI op = 103)) ∨ (clsI op = 2 ∧ ocI op = 99) ∨ (clsI op = 3 ∧ ocI op = 3) ∨ (clsI op = 4 ∧ ocI op = 35) ∨ (clsI op = 5 ∧ (ocI op = 19 ∨ ocI op = 27)) ∨ (clsI op = 6 ∧ (ocI op = 51 ∨ ocI op = 59)) ∨ (clsI op = 7 ∧ ocI op = 15)
    ∨ ((clsI op = 8 ∨ clsI op = 9 ∨ clsI op = 10 ∨ clsI op = 11 ∨ clsI op = 12) ∧ ocI op = 115)) (by decide +kernel) (fun op h => .inl (cls_out h)) op
set_option maxHeartbeats 8000000 in
theorem is_law (v : Int) (hv0 : 0 ≤ v) (hv1 : v < 4294967296) (w : World) (hT : Tab w) :
    Calls Tryd.prog 6 #[.int .u32 v] w fun e w' => e = .returned (.bool true) ∧ Grown w w' := by
  have hq := eql_insn
  have hr := same_refl 0 0 0 0 0 0
  have hg := Grown.refl w
  rcases hit_ways3 v with ⟨ho, h0, h1, hy, _⟩ | ⟨ho, h0, _⟩
  · have x6 : xE v = 0 := by unfold xE; rw [ho]; rfl
    have xi : isB (xOp v) (xRd v) (xRs1 v) (xRs2 v) (xImm v) (xCsr v) = true := by
      unfold xOp xRd xRs1 xRs2 xImm xCsr
      rw [ho]
      exact (hit_yes hy).2.1
    have xo : v % 128 = ocI (xOp v) := opc_hit (by unfold xOp; omega) (by unfold xOp; omega) hy
    have xc : clsI (xOp v) ≠ 0 := by
      intro hc
      unfold isB at xi
      rw [hc] at xi
      simp at xi
    rcases oc_ways (xOp v) with hc | ⟨hc, hx | hx | hx | hx⟩ | ⟨hc, hx⟩ | ⟨hc, hx⟩ | ⟨hc, hx⟩ | ⟨hc, hx | hx⟩ | ⟨hc, hx | hx⟩ | ⟨hc, hx⟩ | ⟨hc | hc | hc | hc | hc, hx⟩
    · exact absurd hc xc
    all_goals
      rw [hx] at xo
      clear hx xc
      go_enter Tryd.func6, Tryd.ntmps6
      go_wp2_with (go_at_call 8; refine (known_from hT hg).mono ?_; rintro e w0 ⟨rfl, hg⟩)
      refine (decode_from hT hg v hv0 hv1).mono ?_
      rintro e w1 ⟨rfl, hg⟩
      have hT1 := (hT.grown hg).grown ((Grown.refl w1).alloc #[.int .i64 (xOp v), .int .i64 (xRd v), .int .i64 (xRs1 v), .int .i64 (xRs2 v), .int .i64 (xImm v), .int .i64 (xCsr v)] 25)
      have hg1 := Grown.refl (w1.alloc (.cells #[.int .i64 (xOp v), .int .i64 (xRd v), .int .i64 (xRs1 v), .int .i64 (xRs2 v), .int .i64 (xImm v), .int .i64 (xCsr v)] 25))
      go_wp2_with (first | (go_at_call 15; refine (class_from hT1 hg1 _).mono ?_; rintro e w' ⟨rfl, hg1⟩; obtain ⟨c0, c1, c2, c3, c4, c5⟩ := (Six.new _ _ _ _ _ _ _ _).grown hg1) | (go_at_call 11; refine (opcode_any _ hv0 hv1 _).mono ?_; rintro e w' ⟨rfl, rfl⟩) | (go_at_call 16; refine (is_from hT1 hg1 _ _ _ _ _ _).mono ?_; rintro e w' ⟨rfl, hg1⟩; obtain ⟨c0, c1, c2, c3, c4, c5⟩ := (Six.new _ _ _ _ _ _ _ _).grown hg1))
      go_ret
      exact ⟨rfl, Grown.trans' hg (Grown.trans' ((Grown.refl _).alloc _ _) hg1)⟩
  · have x6 : xE v = 40 := by unfold xE; rw [ho]; rfl
    have x0 : xOp v = 0 := by unfold xOp; rw [h0]; rfl
    have x1 : xRd v = 0 := by unfold xRd; rw [ho]; rfl
    have x2 : xRs1 v = 0 := by unfold xRs1; rw [ho]; rfl
    have x3 : xRs2 v = 0 := by unfold xRs2; rw [ho]; rfl
    have x4 : xImm v = 0 := by unfold xImm; rw [ho]; rfl
    have x5 : xCsr v = 0 := by unfold xCsr; rw [ho]; rfl
    go_enter Tryd.func6, Tryd.ntmps6
    go_wp2_with (go_at_call 8; refine (known_from hT hg).mono ?_; rintro e w0 ⟨rfl, hg⟩)
    refine (decode_from hT hg v hv0 hv1).mono ?_
    rw [x0, x1, x2, x3, x4, x5, x6]
    rintro e w1 ⟨rfl, hg⟩
    go_wp2_with fail
    go_ret
    exact ⟨rfl, Grown.trans' hg ((Grown.refl _).alloc _ _)⟩
end Go.Proofs.YtbcmklojfmenjaaDoor
