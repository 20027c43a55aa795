/-
  What statement PteTells asks: walked for every argument.
-/
import Derived.Test.YtlgmnnfgekmibaaDoorPFace
namespace Go.Proofs.YtlgmnnfgekmibaaDoor
open Go.RowKit
set_option maxHeartbeats 1000000 in
theorem ptells_any (e f b k : Int) (user sum mxr : Bool) (he : U e) {W : World} (hT : Tab10 W) :
    Calls Tryd.prog 3 #[.int .u64 e, .int .i64 f, .int .i64 b, .int .i64 k, .bool user, .bool sum, .bool mxr] W fun e w' => e = .returned (.bool true) ∧ Kept W w' := by
  have q1 : (makI f b == makI f b) = true := beq_self_eq_true _
  have q2 : (frI e == frI e) = true := beq_self_eq_true _
  have q3 : (isE e == isE e) = true := beq_self_eq_true _
  have q4 : (leafE e == leafE e) = true := beq_self_eq_true _
  have q5 : (mayE b k user sum mxr == mayE b k user sum mxr) = true := beq_self_eq_true _
  have q6 : ((bs (txtL e)).toList == (bs (txtL e)).toList) = true := beq_self_eq_true _
  go_enter Tryd.func3, Tryd.ntmps3
  go_wp2_with fail
  refine (known10_any hT (Only.refl _ W)).mono ?_
  rintro r w0 ⟨rfl, k0⟩
  go_wp2_with fail
  refine (pmake_from hT k0 _ _).mono ?_
  rintro r w1 ⟨rfl, k1⟩
  go_wp2_with fail
  refine (rmake_any _ _ _).mono ?_
  rintro r w' ⟨rfl, rfl⟩
  go_wp2_with fail
  refine (pframe_from hT k1 _ he).mono ?_
  rintro r w2 ⟨rfl, k2⟩
  go_wp2_with fail
  refine (rframe_of _ _).mono ?_
  rintro r w' ⟨rfl, rfl⟩
  go_wp2_with fail
  refine (pis_from hT k2 _ he).mono ?_
  rintro r w3 ⟨rfl, k3⟩
  go_wp2_with fail
  refine (ris_of _ _).mono ?_
  rintro r w' ⟨rfl, rfl⟩
  go_wp2_with fail
  refine (pleaf_from hT k3 _ he).mono ?_
  rintro r w4 ⟨rfl, k4⟩
  go_wp2_with fail
  refine (rleaf_of _ _).mono ?_
  rintro r w' ⟨rfl, rfl⟩
  go_wp2_with fail
  refine (pmay_from hT k4 _ _ _ _ _).mono ?_
  rintro r w5 ⟨rfl, k5⟩
  go_wp2_with fail
  refine (rmay_of _ _ _ _ _ _).mono ?_
  rintro r w' ⟨rfl, rfl⟩
  go_wp2_with fail
  refine (ptext_from hT k5 _ he).mono ?_
  rintro r w6 ⟨rfl, k6⟩
  go_wp2_with fail
  refine (ltext_any _ he _).mono ?_
  rintro r w7 ⟨rfl, k7⟩
  go_wp2
  go_ret
  exact ⟨rfl, k6.then k7⟩
end Go.Proofs.YtlgmnnfgekmibaaDoor
