/-
  What statement CsrBack asks: for every argument.
-/
import Derived.Test.YtebdokgfcjlplaaDoorCBack1
import Derived.Test.YtebdokgfcjlplaaDoorCBack2
import Derived.Test.YtebdokgfcjlplaaDoorCBack3
namespace Go.Proofs.YtebdokgfcjlplaaDoor
open Go.RowKit
theorem cback_any (S : StM) (hS : S.Ok) (x v : Int) (x0 : 0 ≤ x) (x1 : x ≤ 255) (hv : U v) {W : World} (hT : Tab8 W) :
    Calls Tryd.prog 4 #[.agg (rowOf 65 (stF S)), .int .u8 x, .int .u64 v] W fun e w' => e = .returned (.bool true) ∧ Kept W w' := by
  obtain ⟨k, hx⟩ : ∃ k : Nat, x % 29 = k := ⟨(x % 29).toNat, by omega⟩
  have hk : k < 29 := by omega
  have hix := idx_num k hk
  have h0 : 0 ≤ idxI (numI (k : Int)) := by omega
  have hok : okC (numI (k : Int)) = true := decide_eq_true (.inl h0)
  have hwr : wrS S (numI (k : Int)) v = S.setC k (wrI k (S.C k) v) := by unfold wrS; rw [if_pos h0, hix, Int.toNat_natCast]
  have hrd : ∀ y, rdC (S.setC k y) (numI (k : Int)) = y := fun y => by rw [(rdC_in hix).1, StM.setC_at]
  have hUw := U_wr k (S.C k) v
  by_cases hz : k = 0
  · subst hz
    have e0 : wrI 0 (S.C 0) v = mppI (putI (S.C 0) v (maskI 0)) := by unfold wrI; rw [if_pos rfl]
    by_cases hc : bits .and .u64 (putI (S.C 0) v (maskI 0) / 2048) 3 = 2
    · have e1 : mppI (putI (S.C 0) v (maskI 0)) = bits .andNot .u64 (putI (S.C 0) v (maskI 0)) 6144 := by unfold mppI; rw [if_pos hc]
      exact cback_2 S hS x v _ 0 hk x0 x1 hx rfl hv _ hwr hok (hrd _) hix hUw (putI (S.C 0) v (maskI 0)) rfl rfl (by rw [hc]; rfl) (by rw [e0, e1]) hT
    · have e1 : mppI (putI (S.C 0) v (maskI 0)) = putI (S.C 0) v (maskI 0) := by unfold mppI; rw [if_neg hc]
      exact cback_3 S hS x v _ 0 hk x0 x1 hx rfl hv _ hwr hok (hrd _) hix hUw (by rw [e0, e1]; rfl) rfl (by rw [e0, e1]; exact beq_eq_false_iff_ne.2 hc) hT
  · have e0 : wrI k (S.C k) v = putI (S.C k) v (maskI (k : Int)) := by unfold wrI; rw [if_neg hz]
    exact cback_1 S hS x v _ k hk x0 x1 hx rfl hv _ hwr hok (hrd _) hix hUw e0.symm (beq_eq_false_iff_ne.2 (by omega)) hT
end Go.Proofs.YtebdokgfcjlplaaDoor
