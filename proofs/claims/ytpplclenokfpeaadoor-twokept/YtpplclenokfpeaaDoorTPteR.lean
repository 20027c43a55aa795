/-
  What package pte's calls answer (Make, Frame, Is, Leaf, May), in the document's words: walked whole, for every argument, over the cells of the one table that May reads.
-/
import Derived.Test.YtpplclenokfpeaaDoorTPteMath
import Derived.Test.YtpplclenokfpeaaDoorStBase
import Derived.Test.YtpplclenokfpeaaDoorMemBase
import Derived.Test.YtpplclenokfpeaaDoorShell
namespace Go.Proofs.YtpplclenokfpeaaDoor
open Go.RowKit
def riL : List Value := flatD 4 (Rows.laid_sallyport_pte_rights (H := Unit))
/-- The cells of the table of rights. -/
def TabR (w : World) : Prop := ∀ i v, riL[i]? = some v → w.cell? ⟨0, i, none⟩ = some v
theorem TabR.kept {w w' : World} (h : TabR w) (k : Kept w w') : TabR w' := fun i v hi => k.cell (h i v hi)
section
variable {w : World}
set_option maxHeartbeats 1000000 in
theorem pmake_c (f b : Int) :
    Calls Tryd.prog 77 #[.int .i64 f, .int .i64 b] w fun r w' => r = .returned (.int .u64 (makI f b)) ∧ Kept w w' := by
  rw [← make_is]
  go_enter Tryd.func77, Tryd.ntmps77
  go_wp2_with fail
  refine (set_any _ _ _ _ _).mono ?_
  rintro e w' ⟨rfl, rfl⟩
  go_wp2_with fail
  refine (set_any _ _ _ _ _).mono ?_
  rintro e w' ⟨rfl, rfl⟩
  go_wp2
  go_ret
  exact ⟨rfl, Only.refl _ _⟩
set_option maxHeartbeats 1000000 in
theorem pframe_of (e : Int) :
    Calls Tryd.prog 55 #[.int .u64 e] w fun r w' => r = .returned (.int .i64 (frI e)) ∧ w' = w := by
  have h0 : 0 ≤ frI e := by unfold frI; omega
  have h1 : frI e < 256 := by unfold frI; omega
  go_enter Tryd.func55, Tryd.ntmps55
  go_wp2_with fail
  refine (bits_any _ _ _ _).mono ?_
  rintro r w' ⟨rfl, rfl⟩
  rw [frame_is]
  go_wp2
  go_ret
  exact ⟨rfl, rfl⟩
theorem pframe_c (e : Int) :
    Calls Tryd.prog 55 #[.int .u64 e] w fun r w' => r = .returned (.int .i64 (frI e)) ∧ Kept w w' := by
  exact (pframe_of e).mono fun _ _ h => ⟨h.1, h.2 ▸ Only.refl _ _⟩
set_option maxHeartbeats 1000000 in
theorem pis_of (e : Int) (he : U e) :
    Calls Tryd.prog 52 #[.int .u64 e] w fun r w' => r = .returned (.bool (isE e)) ∧ w' = w := by
  have h0 := u_is e 0 (by omega) 1 rfl
  have h6 := six_is e
  have hk := known_is he
  unfold isE
  generalize (!gb e 2 || gb e 1) = b at *
  generalize ((e / 65536 == 0) && !gb e 5) = c at *
  cases hg : gb e 0 <;> cases b <;> cases c
  all_goals
    rw [hg] at h0
    clear hg
    go_enter Tryd.func52, Tryd.ntmps52
    go_wp2
    go_ret
    exact ⟨rfl, rfl⟩
theorem pis_c (e : Int) (he : U e) :
    Calls Tryd.prog 52 #[.int .u64 e] w fun r w' => r = .returned (.bool (isE e)) ∧ Kept w w' := by
  exact (pis_of e he).mono fun _ _ h => ⟨h.1, h.2 ▸ Only.refl _ _⟩
set_option maxHeartbeats 1000000 in
theorem pleaf_c (e : Int) (he : U e) :
    Calls Tryd.prog 53 #[.int .u64 e] w fun r w' => r = .returned (.bool (leafE e)) ∧ Kept w w' := by
  have h0 := u_two e
  unfold leafE
  generalize (gb e 1 || gb e 3) = b at *
  cases hi : isE e <;> cases b
  all_goals
    go_enter Tryd.func53, Tryd.ntmps53
    go_wp2_with fail
    refine (pis_of e he).mono ?_
    rintro r w' ⟨rfl, rfl⟩
    rw [hi]
    go_wp2
    go_ret
    exact ⟨rfl, Only.refl _ _⟩
/-- Whose page it is, but for A. -/
def rchE (b k : Int) (user sum : Bool) : Bool := bif user then gb b 4 else (!gb b 4 || (sum && !(k == 0)))
set_option maxHeartbeats 1000000 in
theorem reaches_any (b k : Int) (user sum : Bool) :
    Calls Tryd.prog 63 #[.int .i64 b, .int .i64 k, .bool user, .bool sum] w fun r w' => r = .returned (.bool (rchE b k user sum)) ∧ w' = w := by
  have h4 := i_is b 4 (by omega) 16 rfl
  have hk : (k != 0) = !(k == 0) := rfl
  unfold rchE
  cases hg : gb b 4 <;> cases user <;> cases sum <;> cases hz : (k == 0)
  all_goals
    rw [hg] at h4
    rw [hz] at hk
    clear hg hz
    simp only [Bool.not_true, Bool.not_false] at hk
    go_enter Tryd.func63, Tryd.ntmps63
    go_wp2
    go_ret
    exact ⟨rfl, rfl⟩
/-- A row of rights, by its number: the kind, the bits, whether mxr must be on. -/
def rK (j : Nat) : Int := intOf (riL.getD (3 * j) (.int .i64 0))
def rB (j : Nat) : Int := intOf (riL.getD (3 * j + 1) (.int .i64 0))
def rM (j : Nat) : Bool := j == 2
theorem ri_len : riL.length = 12 := by decide +kernel
theorem sizeRi : (Tryd.prog.info? 128).map (·.size) = some riL.length := by rw [ri_len]; kernel_rfl
theorem ri_row0 (w : World) : (Instr.index 128 (.agg riL.toArray) (.int .i64 0)).run Tryd.prog w = .ok (.agg #[.int .i64 (rK 0), .int .i64 (rB 0), .bool (rM 0)]) w := by kernel_rfl
theorem ri_row1 (w : World) : (Instr.index 128 (.agg riL.toArray) (.int .i64 1)).run Tryd.prog w = .ok (.agg #[.int .i64 (rK 1), .int .i64 (rB 1), .bool (rM 1)]) w := by kernel_rfl
theorem ri_row2 (w : World) : (Instr.index 128 (.agg riL.toArray) (.int .i64 2)).run Tryd.prog w = .ok (.agg #[.int .i64 (rK 2), .int .i64 (rB 2), .bool (rM 2)]) w := by kernel_rfl
theorem ri_row3 (w : World) : (Instr.index 128 (.agg riL.toArray) (.int .i64 3)).run Tryd.prog w = .ok (.agg #[.int .i64 (rK 3), .int .i64 (rB 3), .bool (rM 3)]) w := by kernel_rfl
theorem ri_row (k : Nat) (hk : k < 4) (w : World) : (Instr.index 128 (.agg riL.toArray) (.int .i64 (k : Int))).run Tryd.prog w = .ok (.agg #[.int .i64 (rK k), .int .i64 (rB k), .bool (rM k)]) w := by
  have : k = 0 ∨ k = 1 ∨ k = 2 ∨ k = 3 := by omega
  rcases this with rfl | rfl | rfl | rfl
  · exact ri_row0 w
  · exact ri_row1 w
  · exact ri_row2 w
  · exact ri_row3 w
/-- Whether a row lets it. -/
def hitR (b k : Int) (mxr : Bool) (j : Nat) : Bool := (rK j == k) && ((bits .and .i64 b (rB j) == rB j) && (mxr || !rM j))
def letR (b k : Int) (mxr : Bool) : Nat → Bool
  | 0 => false
  | n + 1 => letR b k mxr n || hitR b k mxr n
theorem let_can (b k : Int) (mxr : Bool) : letR b k mxr 4 = canE b k mxr := by
  have k0 : rK 0 = 0 := by decide +kernel
  have k1 : rK 1 = 1 := by decide +kernel
  have k2 : rK 2 = 1 := by decide +kernel
  have k3 : rK 3 = 2 := by decide +kernel
  have b0 : rB 0 = 8 := by decide +kernel
  have b1 : rB 1 = 2 := by decide +kernel
  have b2 : rB 2 = 8 := by decide +kernel
  have b3 : rB 3 = 132 := by decide +kernel
  have e3 := i_eq b 3 (by omega) 8 rfl
  have e1 := i_eq b 1 (by omega) 2 rfl
  have ew := i_wd b
  simp only [letR, hitR, k0, k1, k2, k3, b0, b1, b2, b3, e3, e1, ew, rM]
  unfold canE
  by_cases h0 : k = 0
  · subst h0
    cases gb b 3 <;> cases gb b 1 <;> cases gb b 2 <;> cases gb b 7 <;> cases mxr <;> rfl
  · by_cases h1 : k = 1
    · subst h1
      cases gb b 3 <;> cases gb b 1 <;> cases gb b 2 <;> cases gb b 7 <;> cases mxr <;> rfl
    · by_cases h2 : k = 2
      · subst h2
        cases gb b 3 <;> cases gb b 1 <;> cases gb b 2 <;> cases gb b 7 <;> cases mxr <;> rfl
      · have d0 : ((0 : Int) == k) = false := beq_eq_false_iff_ne.2 (Ne.symm h0)
        have d1 : ((1 : Int) == k) = false := beq_eq_false_iff_ne.2 (Ne.symm h1)
        have d2 : ((2 : Int) == k) = false := beq_eq_false_iff_ne.2 (Ne.symm h2)
        have f0 : (k == 0) = false := beq_eq_false_iff_ne.2 h0
        have f1 : (k == 1) = false := beq_eq_false_iff_ne.2 h1
        have f2 : (k == 2) = false := beq_eq_false_iff_ne.2 h2
        rw [d0, d1, d2, f0, f1, f2]
        rfl
theorem let_rest {b k : Int} {mxr : Bool} {j : Nat} (h : hitR b k mxr j = true) : ∀ n, j < n → letR b k mxr n = true
  | 0, hn => by omega
  | n + 1, hn => by
    unfold letR
    by_cases hj : j = n
    · rw [← hj, h, Bool.or_true]
    · rw [let_rest h n (by omega), Bool.true_or]
set_option maxRecDepth 10000 in
set_option maxHeartbeats 4000000 in
theorem lets_any (hT : TabR w) (b k : Int) (mxr : Bool) :
    Calls Tryd.prog 64 #[.int .i64 b, .int .i64 k, .bool mxr] w fun r w' => r = .returned (.bool (canE b k mxr)) ∧ Kept w w' := by
  rw [← let_can]
  go_enter Tryd.func64, Tryd.ntmps64
  go_wp2_with (refine wpList_load_list rfl 128 _ rfl 0 rfl riL _ hT Tryd.underlying128 rfl sizeRi ?_)
  go_loopw [10] (fun i wr => ∃ j : Nat, j ≤ 4 ∧ i = .int .i64 (j : Int) ∧ letR b k mxr j = false ∧ Kept w wr) (fun i _ => 4 - (intOf i).toNat)
  case atStart => exact ⟨0, by omega, rfl, rfl, Only.refl _ _⟩
  case round =>
    obtain ⟨j, hj, rfl, hno, hg⟩ := hrel
    by_cases hlt : j < 4
    · have hx := ri_row j hlt
      have hlt' : (j : Int) < 4 := by omega
      have hk1 := hg.alloc (.cells #[.int .i64 (rK j), .int .i64 (rB j), .bool (rM j)] 127)
      have hrest := let_rest (b := b) (k := k) (mxr := mxr) (j := j)
      have hnext : hitR b k mxr j = false → letR b k mxr (j + 1) = false := fun h => by unfold letR; rw [hno, h]; rfl
      unfold hitR at hrest hnext
      generalize rK j = rk at *
      generalize rB j = rb at *
      generalize rM j = rm at *
      cases c1 : rk == k
      · have hn := hnext (by rw [c1]; rfl)
        clear hnext hrest
        go_wp2
        exact ⟨⟨j + 1, by omega, by go_num, hn, hk1⟩, by simp [intOf]; omega⟩
      · cases c2 : bits .and .i64 b rb == rb
        · have hn := hnext (by rw [c1, c2]; rfl)
          clear hnext hrest
          go_wp2
          exact ⟨⟨j + 1, by omega, by go_num, hn, hk1⟩, by simp [intOf]; omega⟩
        · cases mxr
          · cases rm
            · have hn := hrest (by rw [c1, c2]; rfl) 4 hlt
              clear hnext hrest
              go_wp2
              go_ret
              exact ⟨by rw [hn]; rfl, hk1⟩
            · have hn := hnext (by rw [c1, c2]; rfl)
              clear hnext hrest
              go_wp2
              exact ⟨⟨j + 1, by omega, by go_num, hn, hk1⟩, by simp [intOf]; omega⟩
          · have hn := hrest (by rw [c1, c2]; rfl) 4 hlt
            clear hnext hrest
            go_wp2
            go_ret
            exact ⟨by rw [hn]; rfl, hk1⟩
    · obtain rfl : j = 4 := by omega
      go_wp2
      go_ret
      exact ⟨by rw [hno]; rfl, hg⟩
set_option maxHeartbeats 1000000 in
theorem pmay_c (hT : TabR w) (b k : Int) (user sum mxr : Bool) :
    Calls Tryd.prog 42 #[.int .i64 b, .int .i64 k, .bool user, .bool sum, .bool mxr] w fun r w' => r = .returned (.bool (mayE b k user sum mxr)) ∧ Kept w w' := by
  have h6 := i_is b 6 (by omega) 64 rfl
  have hm : mayE b k user sum mxr = (gb b 6 && (rchE b k user sum && canE b k mxr)) := by
    unfold mayE whoE rchE
    rw [Bool.and_assoc]
  rw [hm]
  cases c6 : gb b 6
  · rw [c6] at h6
    clear c6 hT hm
    go_enter Tryd.func42, Tryd.ntmps42
    go_wp2
    go_ret
    exact ⟨rfl, Only.refl _ _⟩
  · rw [c6] at h6
    clear c6 hm
    cases cr : rchE b k user sum
    · clear hT
      go_enter Tryd.func42, Tryd.ntmps42
      go_wp2_with fail
      refine (reaches_any b k user sum).mono ?_
      rintro r w' ⟨rfl, rfl⟩
      rw [cr]
      go_wp2
      go_ret
      exact ⟨rfl, Only.refl _ _⟩
    · go_enter Tryd.func42, Tryd.ntmps42
      go_wp2_with fail
      refine (reaches_any b k user sum).mono ?_
      rintro r w' ⟨rfl, rfl⟩
      rw [cr]
      go_wp2_with fail
      refine (lets_any hT b k mxr).mono ?_
      rintro r w' ⟨rfl, hk⟩
      go_wp2
      go_ret
      exact ⟨by simp, hk⟩
end
end Go.Proofs.YtpplclenokfpeaaDoor
