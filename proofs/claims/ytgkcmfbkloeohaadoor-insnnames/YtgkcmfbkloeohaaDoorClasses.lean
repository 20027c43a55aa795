/-
  sallyportlaw2.InsnClasses, walked whole: true for every number.
-/
import Derived.Test.YtgkcmfbkloeohaaDoorKnown
namespace Go.Proofs.YtgkcmfbkloeohaaDoor
open Go.RowKit
theorem cls_next (op : Int) (h0 : 1 ≤ op) (h1 : op < 69) : 1 ≤ clsI op ∧ ((clsI (op + 1) == clsI op) = true ∨ (clsI (op + 1) == clsI op) = false ∧ (clsI (op + 1) == clsI op + 1) = true) := by
  have := op_cases (p := fun op => 1 ≤ op → op < 69 → 1 ≤ clsI op ∧ ((clsI (op + 1) == clsI op) = true ∨ (clsI (op + 1) == clsI op) = false ∧ (clsI (op + 1) == clsI op + 1) = true)) (by decide +kernel) (fun op h a b => by omega) op
  exact this h0 h1
theorem cls_bd (op : Int) : 0 ≤ clsI op ∧ clsI op ≤ 12 :=
  op_cases (p := fun op => 0 ≤ clsI op ∧ clsI op ≤ 12) (by decide +kernel) (fun op h => by rw [cls_out h]; omega) op
theorem classes_ways (op : Int) : (op < 1 ∧ (clsI op == 0) = true) ∨ (1 ≤ op ∧ 70 ≤ op ∧ (clsI op == 0) = true) ∨ op = 69 ∨ (1 ≤ op ∧ op < 69) := by
  rcases Int.lt_or_le op 1 with h | h
  · exact .inl ⟨h, by rw [← cls_0 (.inl h)]; rfl⟩
  · rcases Int.lt_or_le op 70 with g | g
    · omega
    · exact .inr (.inl ⟨h, g, by rw [← cls_0 (.inr g)]; rfl⟩)
set_option maxHeartbeats 2000000 in
theorem classes_law (op : Int) (W : World) (hT : Tab W) :
    Calls Tryd.prog 7 #[.int .i64 op] W fun e w' => e = .returned (.bool true) ∧ Grown W w' := by
  have hg := Grown.refl W
  rcases classes_ways op with ⟨h, h'⟩ | ⟨h, g, h'⟩ | rfl | ⟨h, g⟩
  · go_enter Tryd.func7, Tryd.ntmps7
    go_wp2_with (first | (go_at_call 8; refine (known_from hT hg).mono ?_; rintro e w' ⟨rfl, hg⟩) | (go_at_call 18; refine (class_from hT hg _).mono ?_; rintro e w' ⟨rfl, hg⟩))
    go_ret
    exact ⟨rfl, hg⟩
  · have g' : ¬ op < 69 := by omega
    go_enter Tryd.func7, Tryd.ntmps7
    go_wp2_with (first | (go_at_call 8; refine (known_from hT hg).mono ?_; rintro e w' ⟨rfl, hg⟩) | (go_at_call 18; refine (class_from hT hg _).mono ?_; rintro e w' ⟨rfl, hg⟩))
    go_ret
    exact ⟨rfl, hg⟩
  · have h1 : (clsI 69 == 0) = false := by decide +kernel
    have h2 : (clsI 69 == 12) = true := by decide +kernel
    go_enter Tryd.func7, Tryd.ntmps7
    go_wp2_with (first | (go_at_call 8; refine (known_from hT hg).mono ?_; rintro e w' ⟨rfl, hg⟩) | (go_at_call 18; refine (class_from hT hg _).mono ?_; rintro e w' ⟨rfl, hg⟩))
    go_ret
    exact ⟨rfl, hg⟩
  · obtain ⟨h1, h2⟩ := cls_next op h g
    obtain ⟨b0, b1⟩ := cls_bd op
    have h3 : (clsI 1 == 1) = true := by decide +kernel
    have h4 : (clsI 70 == 0) = true := by decide +kernel
    have h5 : (clsI (-op) == 0) = true := by rw [← cls_0 (op := -op) (by omega)]; rfl
    rcases h2 with h2 | ⟨h2, h2'⟩
    · go_enter Tryd.func7, Tryd.ntmps7
      go_wp2_with (first | (go_at_call 8; refine (known_from hT hg).mono ?_; rintro e w' ⟨rfl, hg⟩) | (go_at_call 18; refine (class_from hT hg _).mono ?_; rintro e w' ⟨rfl, hg⟩))
      go_ret
      exact ⟨rfl, hg⟩
    · go_enter Tryd.func7, Tryd.ntmps7
      go_wp2_with (first | (go_at_call 8; refine (known_from hT hg).mono ?_; rintro e w' ⟨rfl, hg⟩) | (go_at_call 18; refine (class_from hT hg _).mono ?_; rintro e w' ⟨rfl, hg⟩))
      go_ret
      exact ⟨rfl, hg⟩
end Go.Proofs.YtgkcmfbkloeohaaDoor
