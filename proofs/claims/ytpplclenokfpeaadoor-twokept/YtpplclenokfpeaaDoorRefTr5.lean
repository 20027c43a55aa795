/-
  A translation through both tables, as the document's own call answers (Translate of the reference): walked whole, for every argument.
-/
import Derived.Test.YtpplclenokfpeaaDoorRefTr
import Derived.Test.YtpplclenokfpeaaDoorRefTr2
import Derived.Test.YtpplclenokfpeaaDoorRefTr3
import Derived.Test.YtpplclenokfpeaaDoorRefTr4
namespace Go.Proofs.YtpplclenokfpeaaDoor
open Go.RowKit
theorem rtr_any {S : StM} (hS : S.Ok) (at_ k level : Int) (v exec : Bool) (hk : k = 0 ∨ k = 1 ∨ k = 2) (hat : U at_) {w : World} {p q : Nat} {B : Nat → Int} (hm : RefAt w p q B) :
    Calls Tryd.prog 13 #[.pointer (some ⟨p, 0, none⟩), .agg (rowOf 65 (stF S)), .int .u64 at_, .int .i64 k, .int .i64 level, .bool v, .bool exec] w fun e w' => ∃ t, e = .returned (.agg (fndA (trS B S at_ k level v exec).p (trS B S at_ k level v exec).e (trS B S at_ k level v exec).f (trS B S at_ k level v exec).ok t)) ∧ OwnT w.heap.size 10 w' t ∧ Kept w w' := by
  cases hf : (askS S level v).first
  · cases hs : (askS S level v).second
    · by_cases hi : at_ < 65536
      · exact rtr_none_in hS at_ k level v exec hk hat hm rfl hf hs hi
      · exact rtr_none_out hS at_ k level v exec hk hat hm rfl hf hs hi
    · by_cases hi : 65536 ≤ at_
      · exact rtr_far_two hS at_ k level v exec hk hat hm rfl hf hs hi
      · exact rtr_second hS at_ k level v exec hk hat hm rfl hf hs hi
  · by_cases hi : 65536 ≤ at_
    · exact rtr_far_one hS at_ k level v exec hk hat hm rfl hf trivial hi
    · cases ho : (fstS B (askS S level v) at_ k).ok
      · exact rtr_first_no hS at_ k level v exec hk hat hm rfl hf ho hi
      · cases hy : mayE ((fstS B (askS S level v) at_ k).e % 256) (knd k exec) (level == 0) (askS S level v).sum (askS S level v).mxr
        · exact rtr_first_bar hS at_ k level v exec hk hat hm rfl hf ho hi hy
        · exact rtr_first_on hS at_ k level v exec hk hat hm rfl hf ho hi hy
end Go.Proofs.YtpplclenokfpeaaDoor
