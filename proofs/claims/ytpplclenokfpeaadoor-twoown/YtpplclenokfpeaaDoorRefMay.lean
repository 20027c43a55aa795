/-
  Who may do what with a leaf, as the document's own call answers (May of the reference): walked whole, for every argument.
-/
import Derived.Test.YtpplclenokfpeaaDoorRefPte
namespace Go.Proofs.YtpplclenokfpeaaDoor
open Go.RowKit
/-- The tests that the program asks of a leaf's bits. -/
structure BitsE (b : Int) : Prop where
  n6 : (bits .and .i64 b 64 == 0) = !gb b 6
  n4 : (bits .and .i64 b 16 == 0) = !gb b 4
  i4 : (bits .and .i64 b 16 != 0) = gb b 4
  i3 : (bits .and .i64 b 8 != 0) = gb b 3
  i1 : (bits .and .i64 b 2 != 0) = gb b 1
  i2 : (bits .and .i64 b 4 != 0) = gb b 2
  i7 : (bits .and .i64 b 128 != 0) = gb b 7
theorem bitsE (b : Int) : BitsE b := ⟨i_no b 6 (by omega) 64 rfl, i_no b 4 (by omega) 16 rfl, i_is b 4 (by omega) 16 rfl, i_is b 3 (by omega) 8 rfl, i_is b 1 (by omega) 2 rfl, i_is b 2 (by omega) 4 rfl, i_is b 7 (by omega) 128 rfl⟩
theorem who_no {b k : Int} {user sum : Bool} (h : whoE b k user sum = false) : gb b 6 = false ∨ (gb b 6 = true ∧ user = true ∧ gb b 4 = false) ∨ (gb b 6 = true ∧ user = false ∧ gb b 4 = true ∧ sum = false) ∨ (gb b 6 = true ∧ user = false ∧ gb b 4 = true ∧ sum = true ∧ (k == 0) = true) := by
  unfold whoE at h
  revert h
  cases gb b 6 <;> cases gb b 4 <;> cases user <;> cases sum <;> cases (k == 0) <;> simp
theorem who_yes {b k : Int} {user sum : Bool} (h : whoE b k user sum = true) : gb b 6 = true ∧ ((user = true ∧ gb b 4 = true) ∨ (user = false ∧ gb b 4 = false) ∨ (user = false ∧ gb b 4 = true ∧ sum = true ∧ (k == 0) = false)) := by
  unfold whoE at h
  revert h
  cases gb b 6 <;> cases gb b 4 <;> cases user <;> cases sum <;> cases (k == 0) <;> simp
set_option maxHeartbeats 1000000 in
theorem rmay_no (b k : Int) (user sum mxr : Bool) (h : whoE b k user sum = false) (w : World) :
    Calls Tryd.prog 45 #[.int .i64 b, .int .i64 k, .bool user, .bool sum, .bool mxr] w fun r w' => r = .returned (.bool false) ∧ w' = w := by
  obtain ⟨n6, n4, i4, i3, i1, i2, i7⟩ := bitsE b
  clear i3 i1 i2 i7
  rcases who_no h with e | ⟨e, rfl, f⟩ | ⟨e, rfl, f, rfl⟩ | ⟨e, rfl, f, rfl, g⟩
  · rw [e] at n6
    clear n4 i4 h e
    simp only [Bool.not_false] at n6
    go_enter Tryd.func45, Tryd.ntmps45
    go_wp2
    go_ret
    exact ⟨rfl, rfl⟩
  all_goals
    rw [e] at n6
    rw [f] at n4 i4
    clear h e f
    simp only [Bool.not_false, Bool.not_true] at n6 n4
    go_enter Tryd.func45, Tryd.ntmps45
    go_wp2
    go_ret
    exact ⟨rfl, rfl⟩
set_option maxHeartbeats 1000000 in
theorem rmay_yes (b k : Int) (user sum mxr : Bool) (h : whoE b k user sum = true) (w : World) :
    Calls Tryd.prog 45 #[.int .i64 b, .int .i64 k, .bool user, .bool sum, .bool mxr] w fun r w' => r = .returned (.bool (canE b k mxr)) ∧ w' = w := by
  obtain ⟨n6, n4, i4, i3, i1, i2, i7⟩ := bitsE b
  obtain ⟨e, h⟩ := who_yes h
  rw [e] at n6
  simp only [Bool.not_true] at n6
  clear e
  unfold canE
  by_cases k0 : k = 0
  · subst k0
    clear i1 i2 i7
    rcases h with ⟨rfl, f⟩ | ⟨rfl, f⟩ | ⟨_, _, _, g⟩
    · rw [f] at n4 i4
      clear f
      simp only [Bool.not_true] at n4
      cases c3 : gb b 3
      all_goals
        rw [c3] at i3
        clear c3
        go_enter Tryd.func45, Tryd.ntmps45
        go_wp2
        go_ret
        exact ⟨rfl, rfl⟩
    · rw [f] at n4 i4
      clear f
      simp only [Bool.not_false] at n4
      cases c3 : gb b 3
      all_goals
        rw [c3] at i3
        clear c3
        go_enter Tryd.func45, Tryd.ntmps45
        go_wp2
        go_ret
        exact ⟨rfl, rfl⟩
    · cases g
  · have d0 : (k == 0) = false := beq_eq_false_iff_ne.2 k0
    rw [d0]
    by_cases k1 : k = 1
    · subst k1
      clear i2 i7 k0
      rcases h with ⟨rfl, f⟩ | ⟨rfl, f⟩ | ⟨rfl, f, rfl, g⟩
      all_goals
        rw [f] at n4 i4
        clear f
        simp only [Bool.not_true, Bool.not_false] at n4
        cases c1 : gb b 1 <;> cases c3 : gb b 3 <;> cases mxr
        all_goals
          rw [c3] at i3
          rw [c1] at i1
          clear c1 c3
          go_enter Tryd.func45, Tryd.ntmps45
          go_wp2
          go_ret
          exact ⟨rfl, rfl⟩
    · have d1 : (k == 1) = false := beq_eq_false_iff_ne.2 k1
      rw [d1]
      by_cases k2 : k = 2
      · subst k2
        clear i1 i3 k0 k1
        rcases h with ⟨rfl, f⟩ | ⟨rfl, f⟩ | ⟨rfl, f, rfl, g⟩
        all_goals
          rw [f] at n4 i4
          clear f
          simp only [Bool.not_true, Bool.not_false] at n4
          cases c2 : gb b 2 <;> cases c7 : gb b 7
          all_goals
            rw [c2] at i2
            rw [c7] at i7
            clear c2 c7
            go_enter Tryd.func45, Tryd.ntmps45
            go_wp2
            go_ret
            exact ⟨rfl, rfl⟩
      · have d2 : (k == 2) = false := beq_eq_false_iff_ne.2 k2
        rw [d2]
        clear i1 i3 i2 i7 k0 k1 k2
        rcases h with ⟨rfl, f⟩ | ⟨rfl, f⟩ | ⟨rfl, f, rfl, g⟩
        all_goals
          rw [f] at n4 i4
          clear f
          simp only [Bool.not_true, Bool.not_false] at n4
          go_enter Tryd.func45, Tryd.ntmps45
          go_wp2
          go_ret
          exact ⟨rfl, rfl⟩
theorem rmay_of (b k : Int) (user sum mxr : Bool) (w : World) :
    Calls Tryd.prog 45 #[.int .i64 b, .int .i64 k, .bool user, .bool sum, .bool mxr] w fun r w' => r = .returned (.bool (mayE b k user sum mxr)) ∧ w' = w := by
  unfold mayE
  cases h : whoE b k user sum
  · exact rmay_no b k user sum mxr h w
  · exact rmay_yes b k user sum mxr h w
end Go.Proofs.YtpplclenokfpeaaDoor
