/-
  What statements PteMade and PteUsers ask: walked for every argument.
-/
import Derived.Test.YtlgmnnfgekmibaaDoorPFace
import Derived.Test.YtlgmnnfgekmibaaDoorPMath
namespace Go.Proofs.YtlgmnnfgekmibaaDoor
open Go.RowKit
set_option maxHeartbeats 2000000 in
theorem pmade_way (f b E : Int) (x0 x2 x1 x5 x10 is lf : Bool) (hE : makI f b = E) (hU : U E) (f0 : 0 ≤ f) (f1 : f ≤ 255) (b0 : 0 ≤ b) (b1 : b ≤ 255) (a1 : (bits .and .i64 b 1 != 0) = x0) (a4 : (bits .and .i64 b 4 == 0) = x2) (a2 : (bits .and .i64 b 2 != 0) = x1) (a5 : (bits .and .i64 b 32 == 0) = x5) (a10 : (bits .and .i64 b 10 != 0) = x10)
    (m1 : isE E = is) (m2 : leafE E = lf) (m3 : frI E = f) (m4 : bits .and .u64 E 255 = b) (o1 : isE (bits .or .u64 E 65536) = false) (u1 : U (bits .or .u64 E 65536)) (o2 : isE (bits .or .u64 E 9223372036854775808) = false) (u2 : U (bits .or .u64 E 9223372036854775808))
    (h : (x0 = false ∧ is = false ∧ lf = false) ∨ (x0 = true ∧ x2 = false ∧ x1 = false ∧ is = false ∧ lf = false) ∨ (x0 = true ∧ x2 = true ∧ x5 = false ∧ is = false ∧ lf = false) ∨ (x0 = true ∧ x2 = false ∧ x1 = true ∧ x5 = false ∧ is = false ∧ lf = false) ∨
      (x0 = true ∧ x2 = true ∧ x5 = true ∧ is = true ∧ x10 = true ∧ lf = true) ∨ (x0 = true ∧ x2 = true ∧ x5 = true ∧ is = true ∧ x10 = false ∧ lf = false) ∨ (x0 = true ∧ x2 = false ∧ x1 = true ∧ x5 = true ∧ is = true ∧ x10 = true ∧ lf = true) ∨ (x0 = true ∧ x2 = false ∧ x1 = true ∧ x5 = true ∧ is = true ∧ x10 = false ∧ lf = false)) {W : World} (hT : Tab10 W) :
    Calls Tryd.prog 5 #[.int .u8 f, .int .u8 b] W fun e w' => e = .returned (.bool true) ∧ Kept W w' := by
  have q1 : (f == f) = true := beq_self_eq_true _
  have q2 : (b == b) = true := beq_self_eq_true _
  rcases h with ⟨rfl, rfl, rfl⟩ | ⟨rfl, rfl, rfl, rfl, rfl⟩ | ⟨rfl, rfl, rfl, rfl, rfl⟩ | ⟨rfl, rfl, rfl, rfl, rfl, rfl⟩ | ⟨rfl, rfl, rfl, rfl, rfl, rfl⟩ | ⟨rfl, rfl, rfl, rfl, rfl, rfl⟩ | ⟨rfl, rfl, rfl, rfl, rfl, rfl, rfl⟩ | ⟨rfl, rfl, rfl, rfl, rfl, rfl, rfl⟩
  all_goals
    go_enter Tryd.func5, Tryd.ntmps5
    go_wp2_with fail
    refine (known10_any hT (Only.refl _ W)).mono ?_
    rintro r w0 ⟨rfl, k0⟩
    go_wp2_with fail
    refine (pmake_from hT k0 _ _).mono ?_
    rintro r w1 ⟨rfl, k1⟩
    rw [hE]
    go_wp2_with fail
    refine (pframe_from hT k1 _ hU).mono ?_
    rintro r w2 ⟨rfl, k2⟩
    rw [m3]
    go_wp2_with fail
    refine (pis_from hT k2 _ hU).mono ?_
    rintro r w3 ⟨rfl, k3⟩
    rw [m1]
    go_wp2_with fail
    refine (pleaf_from hT k3 _ hU).mono ?_
    rintro r w4 ⟨rfl, k4⟩
    rw [m2]
    go_wp2_with fail
    refine (pis_from hT k4 _ u1).mono ?_
    rintro r w5 ⟨rfl, k5⟩
    rw [o1]
    go_wp2_with fail
    refine (pis_from hT k5 _ u2).mono ?_
    rintro r w6 ⟨rfl, k6⟩
    rw [o2]
    go_wp2
    go_ret
    exact ⟨rfl, k6⟩
theorem pmade_any (f b : Int) (f0 : 0 ≤ f) (f1 : f ≤ 255) (b0 : 0 ≤ b) (b1 : b ≤ 255) {W : World} (hT : Tab10 W) :
    Calls Tryd.prog 5 #[.int .u8 f, .int .u8 b] W fun e w' => e = .returned (.bool true) ∧ Kept W w' := by
  have hm0 : 0 ≤ makI f b := by unfold makI; omega
  have hm1 : makI f b < 65536 := by unfold makI; omega
  obtain ⟨_, o1, u1⟩ := or_high (makI f b) hm0 hm1 16 (by omega) (by omega) 65536 rfl
  obtain ⟨_, o2, u2⟩ := or_high (makI f b) hm0 hm1 63 (by omega) (by omega) 9223372036854775808 rfl
  refine pmade_way f b (makI f b) _ _ _ _ _ _ _ rfl (U_made f b) f0 f1 b0 b1 (i_is b 0 (by omega) 1 rfl) (i_no b 2 (by omega) 4 rfl) (i_is b 1 (by omega) 2 rfl) (i_no b 5 (by omega) 32 rfl) (i_two b) (made_is f0 f1 b0 b1) (made_leaf f0 f1 b0 b1) (made_frame f0 f1) (made_low b0 b1) o1 u1 o2 u2 ?_ hT
  rw [made_is f0 f1 b0 b1]
  generalize (gb b 1 || gb b 3) = x10
  cases gb b 0 <;> cases gb b 2 <;> cases gb b 1 <;> cases gb b 5 <;> cases x10 <;> simp
set_option maxHeartbeats 2000000 in
theorem pusers_any (b : Int) (mxr : Bool) (b0 : 0 ≤ b) (b1 : b ≤ 255) {W : World} (hT : Tab10 W) :
    Calls Tryd.prog 6 #[.int .u8 b, .bool mxr] W fun e w' => e = .returned (.bool true) ∧ Kept W w' := by
  have n4 := i_no (useI b) 4 (by omega) 16 rfl
  have i4 := i_is (useI b) 4 (by omega) 16 rfl
  have hm := use_may b
  have hn3 := use_none b 3 (by omega) (by omega) (by omega) true true true
  have hn1 := use_none b (-1) (by omega) (by omega) (by omega) false true true
  have hE : bits .or .i64 (bits .or .i64 b 64) 128 = useI b := rfl
  generalize useI b = B at *
  cases h4 : gb B 4
  all_goals
    rw [h4] at n4 i4 hm
    clear h4
    simp only [Bool.not_false, Bool.not_true] at n4
    go_enter Tryd.func6, Tryd.ntmps6
    go_wp2_with fail
    refine (known10_any hT (Only.refl _ W)).mono ?_
    rintro r w0 ⟨rfl, k0⟩
    go_wp2
    go_loopw [6] (fun i wr => ∃ k : Nat, k ≤ 3 ∧ i = .int .i64 (k : Int) ∧ Kept W wr) (fun i _ => 3 - (intOf i).toNat)
    case atStart => exact ⟨0, by omega, rfl, k0⟩
    case round =>
      obtain ⟨k, hk, rfl, hg⟩ := hrel
      by_cases hlt : k < 3
      · have l3 : (k : Int) ≤ 2 := by omega
        have e1 := hm (k : Int) true false mxr
        have e2 := hm (k : Int) false false mxr
        have e3 := hm (k : Int) false true mxr
        have e4 := hm (k : Int) true true mxr
        generalize canE B (k : Int) mxr = c at *
        have hd : ((k : Int) == 0) = !((k : Int) != 0) := by simp [bne]
        rw [hd] at e1 e2 e3 e4
        clear hd hm
        cases c <;> cases hz : ((k : Int) != 0)
        all_goals
          rw [hz] at e1 e2 e3 e4
          simp only [cond_true, cond_false, Bool.not_true, Bool.not_false, Bool.and_true, Bool.and_false, Bool.or_true, Bool.or_false, Bool.and_self, Bool.or_self] at e1 e2 e3 e4
          go_wp2_with fail
          refine (pmay_from hT hg _ _ _ _ _).mono ?_
          rintro r w1 ⟨rfl, k1⟩
          rw [e1]
          go_wp2_with fail
          refine (pmay_from hT k1 _ _ _ _ _).mono ?_
          rintro r w2 ⟨rfl, k2⟩
          rw [e2]
          go_wp2_with fail
          refine (pmay_from hT k2 _ _ _ _ _).mono ?_
          rintro r w3 ⟨rfl, k3⟩
          rw [e3]
          go_wp2_with fail
          refine (pmay_from hT k3 _ _ _ _ _).mono ?_
          rintro r w4 ⟨rfl, k4⟩
          rw [e4]
          go_wp2
          exact ⟨⟨k + 1, by omega, by go_num, k4⟩, by simp [intOf]; omega⟩
      · obtain rfl : k = 3 := by omega
        clear hm
        go_wp2_with fail
        refine (pmay_from hT hg _ _ _ _ _).mono ?_
        rintro r w1 ⟨rfl, k1⟩
        rw [hn3]
        go_wp2_with fail
        refine (pmay_from hT k1 _ _ _ _ _).mono ?_
        rintro r w2 ⟨rfl, k2⟩
        rw [hn1]
        go_wp2
        go_ret
        exact ⟨rfl, k2⟩
end Go.Proofs.YtlgmnnfgekmibaaDoor
