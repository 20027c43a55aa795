/-
  Statement TwoTells, its walk in the order of the row's parameters.
-/
import Derived.Test.YtpplclenokfpeaaDoorTTells12
import Derived.Test.YtpplclenokfpeaaDoorTPuts12
import Derived.Test.YtpplclenokfpeaaDoorCShell
namespace Go.Proofs.YtpplclenokfpeaaDoor
open Go.RowKit
theorem ttells_own (v : Value) (S : StM) (at_ kind : Int) (user vv : Bool) {W : World} (h : RowP W v) (hS : S.Ok) (ha : U at_) (k0 : 0 ≤ kind) (k1 : kind ≤ 255) (hT : Tab12 W) :
    Calls Tryd.prog 3 #[v, .agg (rowOf 65 (stF S)), .int .u64 at_, .int .u8 kind, .bool user, .bool vv] W fun e w' => e = .returned (.bool true) ∧ Kept W w' :=
  ttells_any v hS at_ kind user vv h ha k0 k1 hT
end Go.Proofs.YtpplclenokfpeaaDoor
