/-
  Statement TwoKept, its walk in the order of the row's parameters.
-/
import Derived.Test.YtpplclenokfpeaaDoorTKept12
import Derived.Test.YtpplclenokfpeaaDoorTPuts12
import Derived.Test.YtpplclenokfpeaaDoorCShell
namespace Go.Proofs.YtpplclenokfpeaaDoor
open Go.RowKit
theorem tkept_own (v : Value) (S : StM) (at_ tz kind other : Int) (user vv : Bool) {W : World} (h : RowP W v) (hS : S.Ok) (ha : U at_) (htz : U tz) (k0 : 0 ≤ kind) (k1 : kind ≤ 255) (o0 : 0 ≤ other) (o1 : other ≤ 255) (hT : Tab12 W) :
    Calls Tryd.prog 4 #[v, .agg (rowOf 65 (stF S)), .int .u64 at_, .int .u64 tz, .int .u8 kind, .int .u8 other, .bool user, .bool vv] W fun e w' => e = .returned (.bool true) ∧ Kept W w' :=
  tkept_any v hS at_ tz kind other user vv h ha htz k0 k1 o0 o1 hT
end Go.Proofs.YtpplclenokfpeaaDoor
