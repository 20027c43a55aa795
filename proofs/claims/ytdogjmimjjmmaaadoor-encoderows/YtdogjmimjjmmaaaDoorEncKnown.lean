/-
  What every statement of layer 4 asks first: the known instruction, walked whole.
-/
import Derived.Test.YtdogjmimjjmmaaaDoorEncProg
import Derived.Test.YtdogjmimjjmmaaaDoorEncText
namespace Go.Proofs.YtdogjmimjjmmaaaDoor
open Go.RowKit
def insA : Ins := ⟨22, 1, 0, 0, 10, 0⟩
theorem kA_is : isB 22 1 0 0 10 0 = true := by decide +kernel
theorem kA_w : eW 22 1 0 0 10 0 = 10485907 := by decide +kernel
theorem kA_t : tS 22 1 0 0 10 0 = [97, 100, 100, 105, 32, 120, 49, 44, 120, 48, 44, 49, 48] := by decide +kernel
theorem kA_p : progL [insA, insA] = [147, 0, 160, 0, 147, 0, 160, 0] := by decide +kernel
theorem kZ_is : isB 0 0 0 0 0 0 = false := by decide +kernel
theorem known_1 (w : World) (hT : Tab4 w) : Calls Tryd.prog 10 #[.agg #[.int .i64 22, .int .i64 1, .int .i64 0, .int .i64 0, .int .i64 10, .int .i64 0]] w fun e w' => e = .returned (.tuple #[.int .u32 10485907, .int .i64 0]) ∧ More w w' := by
  have h := enc4_any 22 1 0 0 10 0 w hT
  rw [kA_w, (e_yes kA_is).2.1] at h
  exact h.mono fun _ _ k => ⟨k.1, Grown.more k.2⟩
theorem known_2 (w : World) (hT : Tab4 w) : Calls Tryd.prog 10 #[.agg #[.int .i64 0, .int .i64 0, .int .i64 0, .int .i64 0, .int .i64 0, .int .i64 0]] w fun e w' => e = .returned (.tuple #[.int .u32 0, .int .i64 40]) ∧ More w w' :=
  (enc4_no 0 0 0 0 0 0 kZ_is w hT).mono fun _ _ k => ⟨k.1, Grown.more k.2⟩
theorem known_3 (w : World) (hT : Tab4 w) (b : Nat) (hC : Lies w b 0 [insA, insA]) : Calls Tryd.prog 15 #[.slice (some ⟨b, 0, none⟩) 2 2] w fun e w' => e = .returned (.tuple #[.string ⟨#[147, 0, 160, 0, 147, 0, 160, 0]⟩, .int .i64 0]) ∧ More w w' := by
  have h := prog_ok [insA, insA] (by decide) (fun j x hx => by
    match j, hx with
    | 0, hx => obtain rfl := Option.some.inj hx; exact kA_is
    | 1, hx => obtain rfl := Option.some.inj hx; exact kA_is) b 0 2 w hT hC
  rw [kA_p] at h
  exact h
theorem known_4 (w : World) (hT : Tab4 w) : Calls Tryd.prog 12 #[.agg #[.int .i64 22, .int .i64 1, .int .i64 0, .int .i64 0, .int .i64 10, .int .i64 0]] w fun e w' => e = .returned (.string ⟨#[97, 100, 100, 105, 32, 120, 49, 44, 120, 48, 44, 49, 48]⟩) ∧ More w w' := by
  have h := text4_any 22 1 0 0 10 0 w hT
  rw [kA_t] at h
  exact h
theorem known_5 (w : World) (hT : Tab4 w) : Calls Tryd.prog 12 #[.agg #[.int .i64 0, .int .i64 0, .int .i64 0, .int .i64 0, .int .i64 0, .int .i64 0]] w fun e w' => e = .returned (.string ⟨#[]⟩) ∧ More w w' :=
  text4_no 0 0 0 0 0 0 kZ_is w hT
theorem lies_two {w w' : World} {t : TypeId} (g : More (w.alloc (.cells #[.int .i64 22, .int .i64 1, .int .i64 0, .int .i64 0, .int .i64 10, .int .i64 0, .int .i64 22, .int .i64 1, .int .i64 0, .int .i64 0, .int .i64 10, .int .i64 0] t)) w') : Lies w' w.heap.size 0 [insA, insA] := by
  refine Lies.more (fun j x hx => ?_) g
  match j, hx with
  | 0, hx => obtain rfl := Option.some.inj hx; constructor <;> simp [insA]
  | 1, hx => obtain rfl := Option.some.inj hx; constructor <;> simp [insA]
set_option maxRecDepth 100000 in
set_option maxHeartbeats 4000000 in
theorem known4_any (W : World) (hT : Tab4 W) :
    Calls Tryd.prog 9 #[] W fun e w' => e = .returned (.bool true) ∧ More W w' := by
  have hT1 := hT.grown ((More.refl W).alloc #[.int .i64 22, .int .i64 1, .int .i64 0, .int .i64 0, .int .i64 10, .int .i64 0] 23)
  go_enter Tryd.func9, Tryd.ntmps9
  go_wp2_with fail
  refine (known_1 _ hT1).mono ?_
  rintro e w1 ⟨rfl, hg⟩
  obtain ⟨c0, c1, c2, c3, c4, c5⟩ := six_m hg
  go_wp2_with fail
  refine (known_2 _ (hT1.grown hg)).mono ?_
  rintro e w2 ⟨rfl, hm⟩
  replace hg := More.trans' hg hm
  clear c0 c1 c2 c3 c4 c5 hm
  obtain ⟨c0, c1, c2, c3, c4, c5⟩ := six_m hg
  go_wp2_with fail
  refine (known_3 _ ((hT1.grown hg).grown ((More.refl _).alloc _ _)) _ (lies_two (More.refl _))).mono ?_
  rintro e w3 ⟨rfl, hm⟩
  replace hg := More.trans' (hg.alloc _ _) hm
  clear c0 c1 c2 c3 c4 c5 hm
  obtain ⟨c0, c1, c2, c3, c4, c5⟩ := six_m hg
  go_wp2_with fail
  refine (known_4 _ (hT1.grown hg)).mono ?_
  rintro e w4 ⟨rfl, hm⟩
  replace hg := More.trans' hg hm
  clear c0 c1 c2 c3 c4 c5 hm
  obtain ⟨c0, c1, c2, c3, c4, c5⟩ := six_m hg
  go_wp2_with fail
  refine (known_5 _ (hT1.grown hg)).mono ?_
  rintro e w5 ⟨rfl, hm⟩
  replace hg := More.trans' hg hm
  clear c0 c1 c2 c3 c4 c5 hm
  go_wp2_with fail
  go_ret
  exact ⟨rfl, More.trans' ((More.refl _).alloc _ _) hg⟩
end Go.Proofs.YtdogjmimjjmmaaaDoor
