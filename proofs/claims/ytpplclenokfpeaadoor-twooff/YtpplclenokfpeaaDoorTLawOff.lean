/-
  Statement TwoOff, its walk in the order of the row's parameters.
-/
import Derived.Test.YtpplclenokfpeaaDoorTOff
import Derived.Test.YtpplclenokfpeaaDoorCShell
namespace Go.Proofs.YtpplclenokfpeaaDoor
open Go.RowKit
theorem toff_own (S : StM) (at_ k : Int) {W : World} (hS : S.Ok) (ha : U at_) (k0 : 0 ≤ k) (k1 : k ≤ 255) (hT : Tab12 W) :
    Calls Tryd.prog 7 #[.agg (rowOf 65 (stF S)), .int .u64 at_, .int .u8 k] W fun e w' => e = .returned (.bool true) ∧ Kept W w' :=
  toff_any hS at_ k ha k0 k1 hT
end Go.Proofs.YtpplclenokfpeaaDoor
