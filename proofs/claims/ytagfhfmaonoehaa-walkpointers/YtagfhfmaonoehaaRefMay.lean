/-
  Who may do what with a leaf, as the document's own call answers (May of the reference): walked whole, for every argument.
-/
import Derived.Test.YtagfhfmaonoehaaRefPte
namespace Go.Proofs.Ytagfhfmaonoehaa
open Go.RowKit
/-- The tests that the program asks of a leaf's bits. -/
structure BitsE (b : Int) : Prop where
  n6 : (bits .and .i64 b 64 == 0) = !gb b 6
  n4 : (bits .and .i64 b 16 == 0) = !gb b 4
  i4 : (bits .and .i64 b 16 != 0) = gb b 4
  i3 : (bits .and .i64 b 8 != 0) = gb b 3
  i1 : (bits .and .i64 b 2 != 0) = gb b 1
  i2 : (bits .and .i64 b 4 != 0) = gb b 2
  i7 : (bits .and .i64 b 128 != 0) = gb b 7
theorem bitsE (b : Int) : BitsE b := ⟨i_no b 6 (by omega) 64 rfl, i_no b 4 (by omega) 16 rfl, i_is b 4 (by omega) 16 rfl, i_is b 3 (by omega) 8 rfl, i_is b 1 (by omega) 2 rfl, i_is b 2 (by omega) 4 rfl, i_is b 7 (by omega) 128 rfl⟩
theorem who_no {b k : Int} {user sum : Bool} (h : whoE b k user sum = false) : gb b 6 = false ∨ (gb b 6 = true ∧ user = true ∧ gb b 4 = false) ∨ (gb b 6 = true ∧ user = false ∧ gb b 4 = true ∧ sum = false) ∨ (gb b 6 = true ∧ user = false ∧ gb b 4 = true ∧ sum = true ∧ (k == 0) = true) := by
  unfold whoE at h
  revert h
  cases gb b 6 <;> cases gb b 4 <;> cases user <;> cases sum <;> cases (k == 0) <;> simp
theorem who_yes {b k : Int} {user sum : Bool} (h : whoE b k user sum = true) : gb b 6 = true ∧ ((user = true ∧ gb b 4 = true) ∨ (user = false ∧ gb b 4 = false) ∨ (user = false ∧ gb b 4 = true ∧ sum = true ∧ (k == 0) = false)) := by
  unfold whoE at h
  revert h
  cases gb b 6 <;> cases gb b 4 <;> cases user <;> cases sum <;> cases (k == 0) <;> simp
end Go.Proofs.Ytagfhfmaonoehaa
