/-
  sallyportlaw2.InsnNames, walked whole: true for every two numbers.
-/
import Derived.Test.YtgkcmfbkloeohaaDoorClasses
namespace Go.Proofs.YtgkcmfbkloeohaaDoor
open Go.RowKit
theorem nm_some (op : Int) (h0 : 1 ≤ op) (h1 : op < 70) : ((nameS op).toList == []) = false := by
  have := op_cases (p := fun op => 1 ≤ op → op < 70 → ((nameS op).toList == []) = false) (by decide +kernel) (fun op h a b => by omega) op
  exact this h0 h1
theorem nm_none {op : Int} (h : op < 1 ∨ 70 ≤ op) : (nameS op).toList = [] := by
  by_cases h0 : op = 0
  · subst h0; decide +kernel
  · rw [name_out (by omega)]; decide +kernel
theorem nm_apart_fin : ∀ a b : Fin 70, 1 ≤ a.val → ((nameS (a.val : Int)).toList == (nameS (b.val : Int)).toList) = true → a = b := by decide +kernel
theorem nm_apart {a b : Int} (h0 : 1 ≤ a) (h1 : a < 70) (h : ¬ a = b) : ((nameS a).toList == (nameS b).toList) = false := by
  cases e : ((nameS a).toList == (nameS b).toList)
  · rfl
  · exfalso
    by_cases hb : 0 ≤ b ∧ b < 70
    · have := nm_apart_fin ⟨a.toNat, by omega⟩ ⟨b.toNat, by omega⟩ (by simp; omega) (by simpa [show ((a.toNat : Nat) : Int) = a by omega, show ((b.toNat : Nat) : Int) = b by omega] using e)
      simp at this
      omega
    · rw [nm_none (op := b) (by omega), nm_some a h0 h1] at e
      cases e
theorem sz_ways (a : Int) (h0 : 1 ≤ a) (h1 : a < 70) : (clsI a = 3 ∨ clsI a = 4 ∨ clsI a = 12) ∧ (szI a = 1 ∨ szI a = 2 ∨ szI a = 4 ∨ szI a = 8)
    ∨ ((clsI a == 3) = false ∧ (clsI a == 4) = false ∧ (clsI a == 12) = false) ∧ szI a = 0 := by
  have := op_cases (p := fun a => 1 ≤ a → a < 70 → (clsI a = 3 ∨ clsI a = 4 ∨ clsI a = 12) ∧ (szI a = 1 ∨ szI a = 2 ∨ szI a = 4 ∨ szI a = 8)
    ∨ ((clsI a == 3) = false ∧ (clsI a == 4) = false ∧ (clsI a == 12) = false) ∧ szI a = 0) (by decide +kernel) (fun op h a b => by omega) a
  exact this h0 h1
theorem sz_out {a : Int} (h : a < 1 ∨ 70 ≤ a) : szI a = 0 := (sz_0 (by omega) (by omega) (by omega) (by omega)).symm
theorem cls_pos (op : Int) (h0 : 1 ≤ op) (h1 : op < 70) : 0 < clsI op := by
  have := op_cases (p := fun op => 1 ≤ op → op < 70 → 0 < clsI op) (by decide +kernel) (fun op h a b => by omega) op
  exact this h0 h1
set_option maxHeartbeats 4000000 in
theorem names_law (a b : Int) (W : World) (hT : Tab W) :
    Calls Tryd.prog 4 #[.int .i64 a, .int .i64 b] W fun e w' => e = .returned (.bool true) ∧ Grown W w' := by
  have hg := Grown.refl W
  by_cases hin : 1 ≤ a ∧ a < 70
  · obtain ⟨h0, h1⟩ := hin
    have hn := nm_some a h0 h1
    obtain ⟨b0, b1⟩ := cls_bd a
    have hp := cls_pos a h0 h1
    by_cases hab : a = b
    · subst hab
      have he : ((nameS a).toList == (nameS a).toList) = true := by simp
      rcases sz_ways a h0 h1 with ⟨hc | hc | hc, hs | hs | hs | hs⟩ | ⟨⟨hc, hc', hc''⟩, hs⟩
      all_goals
        go_enter Tryd.func4, Tryd.ntmps4
        go_wp2_with (first | (go_at_call 8; refine (known_from hT hg).mono ?_; rintro e w' ⟨rfl, hg⟩) | (go_at_call 16; refine (name_from hT hg _).mono ?_; rintro e w' ⟨rfl, hg⟩) | (go_at_call 18; refine (class_from hT hg _).mono ?_; rintro e w' ⟨rfl, hg⟩) | (go_at_call 20; refine (sizes_from hT hg _).mono ?_; rintro e w' ⟨rfl, hg⟩))
      all_goals
        go_ret
        exact ⟨rfl, hg⟩
    · have he := nm_apart h0 h1 hab
      have hab' : (a == b) = false := by simpa using hab
      rcases sz_ways a h0 h1 with ⟨hc | hc | hc, hs | hs | hs | hs⟩ | ⟨⟨hc, hc', hc''⟩, hs⟩
      all_goals
        go_enter Tryd.func4, Tryd.ntmps4
        go_wp2_with (first | (go_at_call 8; refine (known_from hT hg).mono ?_; rintro e w' ⟨rfl, hg⟩) | (go_at_call 16; refine (name_from hT hg _).mono ?_; rintro e w' ⟨rfl, hg⟩) | (go_at_call 18; refine (class_from hT hg _).mono ?_; rintro e w' ⟨rfl, hg⟩) | (go_at_call 20; refine (sizes_from hT hg _).mono ?_; rintro e w' ⟨rfl, hg⟩))
      all_goals
        go_ret
        exact ⟨rfl, hg⟩
  · have hout : a < 1 ∨ 70 ≤ a := by omega
    have hn := nm_none hout
    have hc : clsI a = 0 := (cls_0 hout).symm
    have hs := sz_out hout
    cases hab : a == b
    · cases hq : (nameS b).toList == []
      · have hq' : (([] : List UInt8) == (nameS b).toList) = false := by
          rw [← hq]; exact BEq.comm
        rcases hout with ho | ho
        · go_enter Tryd.func4, Tryd.ntmps4
          go_wp2_with (first | (go_at_call 8; refine (known_from hT hg).mono ?_; rintro e w' ⟨rfl, hg⟩) | (go_at_call 16; refine (name_from hT hg _).mono ?_; rintro e w' ⟨rfl, hg⟩) | (go_at_call 18; refine (class_from hT hg _).mono ?_; rintro e w' ⟨rfl, hg⟩) | (go_at_call 20; refine (sizes_from hT hg _).mono ?_; rintro e w' ⟨rfl, hg⟩))
          go_ret
          exact ⟨rfl, hg⟩
        · have ho' : ¬ a < 70 := by omega
          have ho2 : 1 ≤ a := by omega
          go_enter Tryd.func4, Tryd.ntmps4
          go_wp2_with (first | (go_at_call 8; refine (known_from hT hg).mono ?_; rintro e w' ⟨rfl, hg⟩) | (go_at_call 16; refine (name_from hT hg _).mono ?_; rintro e w' ⟨rfl, hg⟩) | (go_at_call 18; refine (class_from hT hg _).mono ?_; rintro e w' ⟨rfl, hg⟩) | (go_at_call 20; refine (sizes_from hT hg _).mono ?_; rintro e w' ⟨rfl, hg⟩))
          go_ret
          exact ⟨rfl, hg⟩
      · have hq' : (([] : List UInt8) == (nameS b).toList) = true := by
          rw [← hq]; exact BEq.comm
        rcases hout with ho | ho
        · go_enter Tryd.func4, Tryd.ntmps4
          go_wp2_with (first | (go_at_call 8; refine (known_from hT hg).mono ?_; rintro e w' ⟨rfl, hg⟩) | (go_at_call 16; refine (name_from hT hg _).mono ?_; rintro e w' ⟨rfl, hg⟩) | (go_at_call 18; refine (class_from hT hg _).mono ?_; rintro e w' ⟨rfl, hg⟩) | (go_at_call 20; refine (sizes_from hT hg _).mono ?_; rintro e w' ⟨rfl, hg⟩))
          go_ret
          exact ⟨rfl, hg⟩
        · have ho' : ¬ a < 70 := by omega
          have ho2 : 1 ≤ a := by omega
          go_enter Tryd.func4, Tryd.ntmps4
          go_wp2_with (first | (go_at_call 8; refine (known_from hT hg).mono ?_; rintro e w' ⟨rfl, hg⟩) | (go_at_call 16; refine (name_from hT hg _).mono ?_; rintro e w' ⟨rfl, hg⟩) | (go_at_call 18; refine (class_from hT hg _).mono ?_; rintro e w' ⟨rfl, hg⟩) | (go_at_call 20; refine (sizes_from hT hg _).mono ?_; rintro e w' ⟨rfl, hg⟩))
          go_ret
          exact ⟨rfl, hg⟩
    · obtain rfl : a = b := by simpa using hab
      rcases hout with ho | ho
      · go_enter Tryd.func4, Tryd.ntmps4
        go_wp2_with (first | (go_at_call 8; refine (known_from hT hg).mono ?_; rintro e w' ⟨rfl, hg⟩) | (go_at_call 16; refine (name_from hT hg _).mono ?_; rintro e w' ⟨rfl, hg⟩) | (go_at_call 18; refine (class_from hT hg _).mono ?_; rintro e w' ⟨rfl, hg⟩) | (go_at_call 20; refine (sizes_from hT hg _).mono ?_; rintro e w' ⟨rfl, hg⟩))
        go_ret
        exact ⟨rfl, hg⟩
      · have ho' : ¬ a < 70 := by omega
        have ho2 : 1 ≤ a := by omega
        go_enter Tryd.func4, Tryd.ntmps4
        go_wp2_with (first | (go_at_call 8; refine (known_from hT hg).mono ?_; rintro e w' ⟨rfl, hg⟩) | (go_at_call 16; refine (name_from hT hg _).mono ?_; rintro e w' ⟨rfl, hg⟩) | (go_at_call 18; refine (class_from hT hg _).mono ?_; rintro e w' ⟨rfl, hg⟩) | (go_at_call 20; refine (sizes_from hT hg _).mono ?_; rintro e w' ⟨rfl, hg⟩))
        go_ret
        exact ⟨rfl, hg⟩
end Go.Proofs.YtgkcmfbkloeohaaDoor
