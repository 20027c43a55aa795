/-
  The calls of package pte, handed on from one to the next; the examples that every statement of layer 10 asks first (known) hold.
-/
import Derived.Test.YtlgmnnfgekmibaaDoorTPteT
namespace Go.Proofs.YtlgmnnfgekmibaaDoor
open Go.RowKit
section
variable {W w : World}
theorem pmake_from (hT : Tab10 W) (k : Kept W w) (f b : Int) :
    Calls Tryd.prog 8 #[.int .i64 f, .int .i64 b] w fun r w' => r = .returned (.int .u64 (makI f b)) ∧ Kept W w' :=
  (pmake_any (hT.kept k) f b).mono fun _ _ h => ⟨h.1, k.then h.2⟩
theorem pframe_from (hT : Tab10 W) (k : Kept W w) (e : Int) (he : U e) :
    Calls Tryd.prog 10 #[.int .u64 e] w fun r w' => r = .returned (.int .i64 (frI e)) ∧ Kept W w' :=
  (pframe_any (hT.kept k) e he).mono fun _ _ h => ⟨h.1, k.then h.2⟩
theorem pis_from (hT : Tab10 W) (k : Kept W w) (e : Int) (he : U e) :
    Calls Tryd.prog 12 #[.int .u64 e] w fun r w' => r = .returned (.bool (isE e)) ∧ Kept W w' :=
  (pis_any (hT.kept k) e he).mono fun _ _ h => ⟨h.1, k.then h.2⟩
theorem pleaf_from (hT : Tab10 W) (k : Kept W w) (e : Int) (he : U e) :
    Calls Tryd.prog 14 #[.int .u64 e] w fun r w' => r = .returned (.bool (leafE e)) ∧ Kept W w' :=
  (pleaf_any (hT.kept k) e he).mono fun _ _ h => ⟨h.1, k.then h.2⟩
theorem pmay_from (hT : Tab10 W) (k : Kept W w) (b j : Int) (user sum mxr : Bool) :
    Calls Tryd.prog 16 #[.int .i64 b, .int .i64 j, .bool user, .bool sum, .bool mxr] w fun r w' => r = .returned (.bool (mayE b j user sum mxr)) ∧ Kept W w' :=
  (pmay_any (hT.kept k) b j user sum mxr).mono fun _ _ h => ⟨h.1, k.then h.2⟩
theorem ptext_from (hT : Tab10 W) (k : Kept W w) (e : Int) (he : U e) :
    Calls Tryd.prog 18 #[.int .u64 e] w fun r w' => r = .returned (.string (bs (txtL e))) ∧ Kept W w' :=
  (ptext_any (hT.kept k) e he).mono fun _ _ h => ⟨h.1, k.then h.2⟩
end
theorem U_lit10 {n : Int} (h : (decide (0 ≤ n) && decide (n < 18446744073709551616)) = true) : U n := by
  unfold U; simpa using h
theorem z1 : makI 3 207 = 975 := by decide +kernel
theorem z2 : frI 975 = 3 := by decide +kernel
theorem z3 : isE 975 = true := by decide +kernel
theorem z4 : leafE 975 = true := by decide +kernel
theorem z5 : isE 5 = false := by decide +kernel
theorem z6 : leafE 1 = false := by decide +kernel
theorem z7 : mayE 207 2 false false false = true := by decide +kernel
theorem z8 : mayE 207 1 true false false = false := by decide +kernel
theorem z9 : bs (txtL 975) = ⟨#[86, 82, 87, 88, 65, 68, 32, 51]⟩ := by decide +kernel
set_option maxHeartbeats 1000000 in
theorem known10_any {W w : World} (hT : Tab10 W) (k : Kept W w) :
    Calls Tryd.prog 7 #[] w fun e w' => e = .returned (.bool true) ∧ Kept W w' := by
  have u0 : U 975 := U_lit10 (by decide)
  have u1 : U 5 := U_lit10 (by decide)
  have u2 : U 1 := U_lit10 (by decide)
  go_enter Tryd.func7, Tryd.ntmps7
  go_wp2_with fail
  refine (pmake_from hT k _ _).mono ?_
  rintro e w1 ⟨rfl, k1⟩
  rw [z1]
  go_wp2_with fail
  refine (pframe_from hT k1 _ u0).mono ?_
  rintro e w2 ⟨rfl, k2⟩
  rw [z2]
  go_wp2_with fail
  refine (pis_from hT k2 _ u0).mono ?_
  rintro e w3 ⟨rfl, k3⟩
  rw [z3]
  go_wp2_with fail
  refine (pleaf_from hT k3 _ u0).mono ?_
  rintro e w4 ⟨rfl, k4⟩
  rw [z4]
  go_wp2_with fail
  refine (pis_from hT k4 _ u1).mono ?_
  rintro e w5 ⟨rfl, k5⟩
  rw [z5]
  go_wp2_with fail
  refine (pleaf_from hT k5 _ u2).mono ?_
  rintro e w6 ⟨rfl, k6⟩
  rw [z6]
  go_wp2_with fail
  refine (pmay_from hT k6 _ _ _ _ _).mono ?_
  rintro e w7 ⟨rfl, k7⟩
  rw [z7]
  go_wp2_with fail
  refine (pmay_from hT k7 _ _ _ _ _).mono ?_
  rintro e w8 ⟨rfl, k8⟩
  rw [z8]
  go_wp2_with fail
  refine (ptext_from hT k8 _ u0).mono ?_
  rintro e w9 ⟨rfl, k9⟩
  rw [z9]
  go_wp2
  go_ret
  exact ⟨rfl, k9⟩
end Go.Proofs.YtlgmnnfgekmibaaDoor
