/-
  What package pte's calls answer (Make, Frame, Is, Leaf, May), in the document's words: walked whole, for every argument, over the cells of the one table that May reads.
-/
import Derived.Test.YtagfhfmaonoehaaTPteMath
import Derived.Test.YtagfhfmaonoehaaRowIs
import Derived.Test.YtagfhfmaonoehaaMemBase
import Derived.Test.YtagfhfmaonoehaaLaid
namespace Go.Proofs.Ytagfhfmaonoehaa
open Go.RowKit
section
variable {w : World}
set_option maxHeartbeats 1000000 in
theorem pmake_c (f b : Int) :
    Calls Try.prog 33 #[.int .i64 f, .int .i64 b] w fun r w' => r = .returned (.int .u64 (makI f b)) ∧ Kept w w' := by
  rw [← make_is]
  go_enter Try.func33, Try.ntmps33
  go_wp2_with fail
  refine (set_any _ _ _ _ _).mono ?_
  rintro e w' ⟨rfl, rfl⟩
  go_wp2_with fail
  refine (set_any _ _ _ _ _).mono ?_
  rintro e w' ⟨rfl, rfl⟩
  go_wp2
  go_ret
  exact ⟨rfl, Only.refl _ _⟩
set_option maxHeartbeats 1000000 in
theorem pframe_of (e : Int) :
    Calls Try.prog 25 #[.int .u64 e] w fun r w' => r = .returned (.int .i64 (frI e)) ∧ w' = w := by
  have h0 : 0 ≤ frI e := by unfold frI; omega
  have h1 : frI e < 256 := by unfold frI; omega
  go_enter Try.func25, Try.ntmps25
  go_wp2_with fail
  refine (bits_any _ _ _ _).mono ?_
  rintro r w' ⟨rfl, rfl⟩
  rw [frame_is]
  go_wp2
  go_ret
  exact ⟨rfl, rfl⟩
theorem pframe_c (e : Int) :
    Calls Try.prog 25 #[.int .u64 e] w fun r w' => r = .returned (.int .i64 (frI e)) ∧ Kept w w' := by
  exact (pframe_of e).mono fun _ _ h => ⟨h.1, h.2 ▸ Only.refl _ _⟩
set_option maxHeartbeats 1000000 in
theorem pis_of (e : Int) (he : U e) :
    Calls Try.prog 22 #[.int .u64 e] w fun r w' => r = .returned (.bool (isE e)) ∧ w' = w := by
  have h0 := u_is e 0 (by omega) 1 rfl
  have h6 := six_is e
  have hk := known_is he
  unfold isE
  generalize (!gb e 2 || gb e 1) = b at *
  generalize ((e / 65536 == 0) && !gb e 5) = c at *
  cases hg : gb e 0 <;> cases b <;> cases c
  all_goals
    rw [hg] at h0
    clear hg
    go_enter Try.func22, Try.ntmps22
    go_wp2
    go_ret
    exact ⟨rfl, rfl⟩
theorem pis_c (e : Int) (he : U e) :
    Calls Try.prog 22 #[.int .u64 e] w fun r w' => r = .returned (.bool (isE e)) ∧ Kept w w' := by
  exact (pis_of e he).mono fun _ _ h => ⟨h.1, h.2 ▸ Only.refl _ _⟩
set_option maxHeartbeats 1000000 in
theorem pleaf_c (e : Int) (he : U e) :
    Calls Try.prog 23 #[.int .u64 e] w fun r w' => r = .returned (.bool (leafE e)) ∧ Kept w w' := by
  have h0 := u_two e
  unfold leafE
  generalize (gb e 1 || gb e 3) = b at *
  cases hi : isE e <;> cases b
  all_goals
    go_enter Try.func23, Try.ntmps23
    go_wp2_with fail
    refine (pis_of e he).mono ?_
    rintro r w' ⟨rfl, rfl⟩
    rw [hi]
    go_wp2
    go_ret
    exact ⟨rfl, Only.refl _ _⟩
/-- Whose page it is, but for A. -/
def rchE (b k : Int) (user sum : Bool) : Bool := bif user then gb b 4 else (!gb b 4 || (sum && !(k == 0)))
def rM (j : Nat) : Bool := j == 2
end
end Go.Proofs.Ytagfhfmaonoehaa
