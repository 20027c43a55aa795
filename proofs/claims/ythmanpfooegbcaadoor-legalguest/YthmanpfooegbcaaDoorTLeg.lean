/-
  What package legal's calls answer: walked whole, for every argument, where the listed tables' cells stand.
-/
import Derived.Test.YthmanpfooegbcaaDoorTTab9
import Derived.Test.YthmanpfooegbcaaDoorRefLeg2
namespace Go.Proofs.YthmanpfooegbcaaDoor
open Go.RowKit
theorem ofInt_nat {X : Nat} (h : X < 2 ^ 64) : (BitVec.ofInt 64 (X : Int)).toNat = X := by
  rw [BitVec.toNat_ofInt]
  omega
theorem bit_ne {x : Int} (hx : U x) (k : Nat) (hk : k < 64) (m : Int) (hm : m = ((2 ^ k : Nat) : Int)) : (bits .and .u64 x m != 0) = bitB x k := by
  obtain ⟨X, rfl, hX⟩ := hx.nat
  subst hm
  have e1 : bits .and .u64 (X : Int) ((2 ^ k : Nat) : Int) = ((X &&& 2 ^ k : Nat) : Int) := by
    rw [bits_and, BitVec.toNat_and, ofInt_nat hX, ofInt_nat (Nat.pow_lt_pow_right (by decide) hk)]
  have e0 : (X : Int) / 2 ^ k = ((X / 2 ^ k : Nat) : Int) := by
    rw [Int.natCast_ediv, Int.natCast_pow]
    rfl
  have e2 : bits .and .u64 ((X : Int) / 2 ^ k) 1 = ((X / 2 ^ k &&& 1 : Nat) : Int) := by
    have h1 : (1 : Int) = ((1 : Nat) : Int) := rfl
    rw [e0, h1, bits_and, BitVec.toNat_and, ofInt_nat (Nat.lt_of_le_of_lt (Nat.div_le_self _ _) hX), ofInt_nat (by decide)]
  unfold bitB
  rw [e1, e2, Nat.and_one_is_mod]
  cases hb : X.testBit k
  · have z : X &&& 2 ^ k = 0 := Nat.eq_of_testBit_eq fun i => by
      rw [Nat.testBit_and, Nat.testBit_two_pow, Nat.zero_testBit]
      by_cases e : k = i
      · rw [← e, hb]; rfl
      · rw [decide_eq_false e, Bool.and_false]
    rw [Nat.testBit_eq_decide_div_mod_eq] at hb
    have h0 := of_decide_eq_false hb
    rw [z, show X / 2 ^ k % 2 = 0 by omega]
    rfl
  · have z : X &&& 2 ^ k ≠ 0 := fun e => by
      have h := Nat.testBit_and X (2 ^ k) k
      rw [e, hb, Nat.testBit_two_pow_self, Nat.zero_testBit] at h
      cases h
    rw [Nat.testBit_eq_decide_div_mod_eq] at hb
    have h1 := of_decide_eq_true hb
    rw [h1, bne_iff_ne.2 (show ((X &&& 2 ^ k : Nat) : Int) ≠ 0 by omega)]
    rfl
set_option maxRecDepth 10000 in
set_option maxHeartbeats 1000000 in
theorem llevel_c (S : StM) (w : World) :
    Calls Tryd.prog 14 #[.agg (rowOf 65 (stF S))] w fun e w' => e = .returned (.int .i64 (lvlI S)) ∧ Kept w w' := by
  have c1 := st_lvl (st_new w S)
  have c2 := st_v (st_new w S)
  have hk : Kept w (w.alloc (.cells (rowOf 65 (stF S)) 26)) := (Only.refl _ w).alloc _
  unfold lvlI
  by_cases h0 : S.lvl = 0
  · rw [if_pos (.inl h0), h0]
    rw [h0] at c1
    cases hv : S.v
    all_goals
      rw [hv] at c2
      go_enter Tryd.func14, Tryd.ntmps14
      go_wp2
      go_ret
      exact ⟨rfl, hk⟩
  · by_cases h1 : S.lvl = 1
    · rw [if_pos (.inr h1), h1]
      rw [h1] at c1
      cases hv : S.v
      all_goals
        rw [hv] at c2
        go_enter Tryd.func14, Tryd.ntmps14
        go_wp2
        go_ret
        exact ⟨rfl, hk⟩
    · rw [if_neg (by rintro (h | h); exact h0 h; exact h1 h)]
      have d0 : (S.lvl == 0) = false := beq_eq_false_iff_ne.2 h0
      have d1 : (S.lvl == 1) = false := beq_eq_false_iff_ne.2 h1
      go_enter Tryd.func14, Tryd.ntmps14
      go_wp2
      go_ret
      exact ⟨rfl, hk⟩
/-- A right and a state that the call itself holds. -/
theorem right_boxes (w : World) (S : StM) (o t : Int) : StAt ((w.alloc (.cells #[.int .i64 o, .int .u64 t] 48)).alloc (.cells (rowOf 65 (stF S)) 26)) (w.heap.size + 1) S ∧ ((w.alloc (.cells #[.int .i64 o, .int .u64 t] 48)).alloc (.cells (rowOf 65 (stF S)) 26)).cell? ⟨w.heap.size, 0, none⟩ = some (.int .i64 o) ∧ ((w.alloc (.cells #[.int .i64 o, .int .u64 t] 48)).alloc (.cells (rowOf 65 (stF S)) 26)).cell? ⟨w.heap.size, 1, none⟩ = some (.int .u64 t) ∧ Kept w ((w.alloc (.cells #[.int .i64 o, .int .u64 t] 48)).alloc (.cells (rowOf 65 (stF S)) 26)) := by
  have h := st_new (w.alloc (.cells #[.int .i64 o, .int .u64 t] 48)) S
  rw [Go.Deep.nblk_alloc] at h
  have hb : (w.alloc (.cells #[.int .i64 o, .int .u64 t] 48)).heap[w.heap.size]? = some (.cells #[.int .i64 o, .int .u64 t] 48 (0, 0)) := alloc_last w _ _
  have k := (Only.refl (fun _ => False) (w.alloc (.cells #[.int .i64 o, .int .u64 t] 48))).alloc (.cells (rowOf 65 (stF S)) 26)
  refine ⟨h, Kept.cell k ?_, Kept.cell k ?_, ((Only.refl _ w).alloc _).alloc _⟩
  · unfold World.cell?
    rw [hb]
    rfl
  · unfold World.cell?
    rw [hb]
    rfl
/-- What comes of trying what is somebody's, by owner and by level. -/
def cauL : List Int := [0, 0, 0, 0, 0, 0, 2, 0, 0, 0, 22, 0, 2, 0, 0, 0, 22, 22, 2, 2, 0, 0, 2, 2]
theorem cau_cells : ∀ k : Fin 24, caL[k.val]? = some (.int .u64 (cauL.getD k.val 0)) := by
  have h : ∀ k : Fin 24, (match caL[k.val]? with | some (.int .u64 n) => n == cauL.getD k.val 0 | _ => false) = true := by decide +kernel
  intro k
  have e := h k
  split at e
  · next n hn => rw [hn, eq_of_beq e]
  · cases e
theorem Tab9.cau {w : World} (h : Tab9 w) {k : Nat} (hk : k < 24) : w.cell? ⟨1, k, none⟩ = some (.int .u64 (cauL.getD k 0)) := h.a _ _ (cau_cells ⟨k, hk⟩)
set_option maxRecDepth 10000 in
set_option maxHeartbeats 1000000 in
theorem ans_pl {w : World} (hT : Tab9 w) {S : StM} (o t l c : Int) (hl : lvlI S = l) (h : (o = 0 ∧ l = 0 ∧ c = 0) ∨ (o = 0 ∧ l = 3 ∧ c = 0) ∨ (o = 0 ∧ l = 4 ∧ c = 0) ∨ (o = 1 ∧ l = 0 ∧ c = 2) ∨ (o = 1 ∧ l = 3 ∧ c = 0) ∨ (o = 1 ∧ l = 4 ∧ c = 22) ∨ (o = 2 ∧ l = 0 ∧ c = 2) ∨ (o = 2 ∧ l = 3 ∧ c = 0) ∨ (o = 2 ∧ l = 4 ∧ c = 22) ∨ (o = 3 ∧ l = 0 ∧ c = 2) ∨ (o = 3 ∧ l = 3 ∧ c = 0) ∨ (o = 3 ∧ l = 4 ∧ c = 2)) :
    Calls Tryd.prog 24 #[.agg #[.int .i64 o, .int .u64 t], .agg (rowOf 65 (stF S))] w fun e w' => e = .returned (.tuple #[.int .u64 c, .bool (c == 0)]) ∧ Kept w w' := by
  obtain ⟨h1, r0, r1, k0⟩ := right_boxes w S o t
  go_enter Tryd.func24, Tryd.ntmps24
  go_wp2_with (refine wpList_load_is (by rfl) 26 _ rfl rfl h1 _ Tryd.underlying26 rfl st_size ?_)
  refine (llevel_c S _).mono ?_
  rintro e w1 ⟨rfl, k1⟩
  have k2 := k0.then k1
  have c0 := (h1.kept k1).c (i := 0) (by omega)
  have c16 := (h1.kept k1).c (i := 16) (by omega)
  have q0 := Kept.cell k1 r0
  have q1 := Kept.cell k1 r1
  have hT1 := hT.kept k2
  rcases h with ⟨ho, hlv, hc⟩ | ⟨ho, hlv, hc⟩ | ⟨ho, hlv, hc⟩ | ⟨ho, hlv, hc⟩ | ⟨ho, hlv, hc⟩ | ⟨ho, hlv, hc⟩ | ⟨ho, hlv, hc⟩ | ⟨ho, hlv, hc⟩ | ⟨ho, hlv, hc⟩ | ⟨ho, hlv, hc⟩ | ⟨ho, hlv, hc⟩ | ⟨ho, hlv, hc⟩
  · have hq := hT1.cau (k := 0) (by omega)
    rw [show cauL.getD 0 0 = 0 from rfl] at hq
    subst ho hc hlv
    rw [hl]
    go_wp2
    go_ret2
    exact ⟨rfl, k2⟩
  · have hq := hT1.cau (k := 3) (by omega)
    rw [show cauL.getD 3 0 = 0 from rfl] at hq
    subst ho hc hlv
    rw [hl]
    go_wp2
    go_ret2
    exact ⟨rfl, k2⟩
  · have hq := hT1.cau (k := 4) (by omega)
    rw [show cauL.getD 4 0 = 0 from rfl] at hq
    subst ho hc hlv
    rw [hl]
    go_wp2
    go_ret2
    exact ⟨rfl, k2⟩
  · have hq := hT1.cau (k := 6) (by omega)
    rw [show cauL.getD 6 0 = 2 from rfl] at hq
    subst ho hc hlv
    rw [hl]
    go_wp2
    go_ret2
    exact ⟨rfl, k2⟩
  · have hq := hT1.cau (k := 9) (by omega)
    rw [show cauL.getD 9 0 = 0 from rfl] at hq
    subst ho hc hlv
    rw [hl]
    go_wp2
    go_ret2
    exact ⟨rfl, k2⟩
  · have hq := hT1.cau (k := 10) (by omega)
    rw [show cauL.getD 10 0 = 22 from rfl] at hq
    subst ho hc hlv
    rw [hl]
    go_wp2
    go_ret2
    exact ⟨rfl, k2⟩
  · have hq := hT1.cau (k := 12) (by omega)
    rw [show cauL.getD 12 0 = 2 from rfl] at hq
    subst ho hc hlv
    rw [hl]
    go_wp2
    go_ret2
    exact ⟨rfl, k2⟩
  · have hq := hT1.cau (k := 15) (by omega)
    rw [show cauL.getD 15 0 = 0 from rfl] at hq
    subst ho hc hlv
    rw [hl]
    go_wp2
    go_ret2
    exact ⟨rfl, k2⟩
  · have hq := hT1.cau (k := 16) (by omega)
    rw [show cauL.getD 16 0 = 22 from rfl] at hq
    subst ho hc hlv
    rw [hl]
    go_wp2
    go_ret2
    exact ⟨rfl, k2⟩
  · have hq := hT1.cau (k := 18) (by omega)
    rw [show cauL.getD 18 0 = 2 from rfl] at hq
    subst ho hc hlv
    rw [hl]
    go_wp2
    go_ret2
    exact ⟨rfl, k2⟩
  · have hq := hT1.cau (k := 21) (by omega)
    rw [show cauL.getD 21 0 = 0 from rfl] at hq
    subst ho hc hlv
    rw [hl]
    go_wp2
    go_ret2
    exact ⟨rfl, k2⟩
  · have hq := hT1.cau (k := 22) (by omega)
    rw [show cauL.getD 22 0 = 2 from rfl] at hq
    subst ho hc hlv
    rw [hl]
    go_wp2
    go_ret2
    exact ⟨rfl, k2⟩
set_option maxRecDepth 10000 in
set_option maxHeartbeats 1000000 in
theorem ans_1 {w : World} (hT : Tab9 w) {S : StM} (o t l c : Int) (b : Bool) (hb : (bits .and .u64 (S.C 0) t != 0) = b) (hl : lvlI S = l) (h : (o = 0 ∧ l = 1 ∧ b = true ∧ c = 2) ∨ (o = 1 ∧ l = 1 ∧ b = true ∧ c = 2) ∨ (o = 2 ∧ l = 1 ∧ b = true ∧ c = 2) ∨ (o = 3 ∧ l = 1 ∧ b = true ∧ c = 2) ∨ (o = 0 ∧ l = 1 ∧ b = false ∧ c = 0) ∨ (o = 1 ∧ l = 1 ∧ b = false ∧ c = 0) ∨ (o = 2 ∧ l = 1 ∧ b = false ∧ c = 0) ∨ (o = 3 ∧ l = 1 ∧ b = false ∧ c = 2)) :
    Calls Tryd.prog 24 #[.agg #[.int .i64 o, .int .u64 t], .agg (rowOf 65 (stF S))] w fun e w' => e = .returned (.tuple #[.int .u64 c, .bool (c == 0)]) ∧ Kept w w' := by
  obtain ⟨h1, r0, r1, k0⟩ := right_boxes w S o t
  go_enter Tryd.func24, Tryd.ntmps24
  go_wp2_with (refine wpList_load_is (by rfl) 26 _ rfl rfl h1 _ Tryd.underlying26 rfl st_size ?_)
  refine (llevel_c S _).mono ?_
  rintro e w1 ⟨rfl, k1⟩
  have k2 := k0.then k1
  have c0 := (h1.kept k1).c (i := 0) (by omega)
  have c16 := (h1.kept k1).c (i := 16) (by omega)
  have q0 := Kept.cell k1 r0
  have q1 := Kept.cell k1 r1
  have hT1 := hT.kept k2
  rcases h with ⟨ho, hlv, hbv, hc⟩ | ⟨ho, hlv, hbv, hc⟩ | ⟨ho, hlv, hbv, hc⟩ | ⟨ho, hlv, hbv, hc⟩ | ⟨ho, hlv, hbv, hc⟩ | ⟨ho, hlv, hbv, hc⟩ | ⟨ho, hlv, hbv, hc⟩ | ⟨ho, hlv, hbv, hc⟩
  · have hq := hT1.cau (k := 1) (by omega)
    rw [show cauL.getD 1 0 = 0 from rfl] at hq
    subst hbv
    subst ho hc hlv
    rw [hl]
    go_wp2
    go_ret2
    exact ⟨rfl, k2⟩
  · have hq := hT1.cau (k := 7) (by omega)
    rw [show cauL.getD 7 0 = 0 from rfl] at hq
    subst hbv
    subst ho hc hlv
    rw [hl]
    go_wp2
    go_ret2
    exact ⟨rfl, k2⟩
  · have hq := hT1.cau (k := 13) (by omega)
    rw [show cauL.getD 13 0 = 0 from rfl] at hq
    subst hbv
    subst ho hc hlv
    rw [hl]
    go_wp2
    go_ret2
    exact ⟨rfl, k2⟩
  · have hq := hT1.cau (k := 19) (by omega)
    rw [show cauL.getD 19 0 = 2 from rfl] at hq
    subst hbv
    subst ho hc hlv
    rw [hl]
    go_wp2
    go_ret2
    exact ⟨rfl, k2⟩
  · have hq := hT1.cau (k := 1) (by omega)
    rw [show cauL.getD 1 0 = 0 from rfl] at hq
    subst hbv
    subst ho hc hlv
    rw [hl]
    go_wp2
    go_ret2
    exact ⟨rfl, k2⟩
  · have hq := hT1.cau (k := 7) (by omega)
    rw [show cauL.getD 7 0 = 0 from rfl] at hq
    subst hbv
    subst ho hc hlv
    rw [hl]
    go_wp2
    go_ret2
    exact ⟨rfl, k2⟩
  · have hq := hT1.cau (k := 13) (by omega)
    rw [show cauL.getD 13 0 = 0 from rfl] at hq
    subst hbv
    subst ho hc hlv
    rw [hl]
    go_wp2
    go_ret2
    exact ⟨rfl, k2⟩
  · have hq := hT1.cau (k := 19) (by omega)
    rw [show cauL.getD 19 0 = 2 from rfl] at hq
    subst hbv
    subst ho hc hlv
    rw [hl]
    go_wp2
    go_ret2
    exact ⟨rfl, k2⟩
set_option maxRecDepth 10000 in
set_option maxHeartbeats 1000000 in
theorem ans_5 {w : World} (hT : Tab9 w) {S : StM} (o t l c : Int) (b : Bool) (hb : (bits .and .u64 (S.C 16) t != 0) = b) (hl : lvlI S = l) (h : (o = 0 ∧ l = 5 ∧ b = true ∧ c = 22) ∨ (o = 1 ∧ l = 5 ∧ b = true ∧ c = 22) ∨ (o = 2 ∧ l = 5 ∧ b = true ∧ c = 22) ∨ (o = 3 ∧ l = 5 ∧ b = true ∧ c = 22) ∨ (o = 0 ∧ l = 5 ∧ b = false ∧ c = 0) ∨ (o = 1 ∧ l = 5 ∧ b = false ∧ c = 0) ∨ (o = 2 ∧ l = 5 ∧ b = false ∧ c = 22) ∨ (o = 3 ∧ l = 5 ∧ b = false ∧ c = 2)) :
    Calls Tryd.prog 24 #[.agg #[.int .i64 o, .int .u64 t], .agg (rowOf 65 (stF S))] w fun e w' => e = .returned (.tuple #[.int .u64 c, .bool (c == 0)]) ∧ Kept w w' := by
  obtain ⟨h1, r0, r1, k0⟩ := right_boxes w S o t
  go_enter Tryd.func24, Tryd.ntmps24
  go_wp2_with (refine wpList_load_is (by rfl) 26 _ rfl rfl h1 _ Tryd.underlying26 rfl st_size ?_)
  refine (llevel_c S _).mono ?_
  rintro e w1 ⟨rfl, k1⟩
  have k2 := k0.then k1
  have c0 := (h1.kept k1).c (i := 0) (by omega)
  have c16 := (h1.kept k1).c (i := 16) (by omega)
  have q0 := Kept.cell k1 r0
  have q1 := Kept.cell k1 r1
  have hT1 := hT.kept k2
  rcases h with ⟨ho, hlv, hbv, hc⟩ | ⟨ho, hlv, hbv, hc⟩ | ⟨ho, hlv, hbv, hc⟩ | ⟨ho, hlv, hbv, hc⟩ | ⟨ho, hlv, hbv, hc⟩ | ⟨ho, hlv, hbv, hc⟩ | ⟨ho, hlv, hbv, hc⟩ | ⟨ho, hlv, hbv, hc⟩
  · have hq := hT1.cau (k := 5) (by omega)
    rw [show cauL.getD 5 0 = 0 from rfl] at hq
    subst hbv
    subst ho hc hlv
    rw [hl]
    go_wp2
    go_ret2
    exact ⟨rfl, k2⟩
  · have hq := hT1.cau (k := 11) (by omega)
    rw [show cauL.getD 11 0 = 0 from rfl] at hq
    subst hbv
    subst ho hc hlv
    rw [hl]
    go_wp2
    go_ret2
    exact ⟨rfl, k2⟩
  · have hq := hT1.cau (k := 17) (by omega)
    rw [show cauL.getD 17 0 = 22 from rfl] at hq
    subst hbv
    subst ho hc hlv
    rw [hl]
    go_wp2
    go_ret2
    exact ⟨rfl, k2⟩
  · have hq := hT1.cau (k := 23) (by omega)
    rw [show cauL.getD 23 0 = 2 from rfl] at hq
    subst hbv
    subst ho hc hlv
    rw [hl]
    go_wp2
    go_ret2
    exact ⟨rfl, k2⟩
  · have hq := hT1.cau (k := 5) (by omega)
    rw [show cauL.getD 5 0 = 0 from rfl] at hq
    subst hbv
    subst ho hc hlv
    rw [hl]
    go_wp2
    go_ret2
    exact ⟨rfl, k2⟩
  · have hq := hT1.cau (k := 11) (by omega)
    rw [show cauL.getD 11 0 = 0 from rfl] at hq
    subst hbv
    subst ho hc hlv
    rw [hl]
    go_wp2
    go_ret2
    exact ⟨rfl, k2⟩
  · have hq := hT1.cau (k := 17) (by omega)
    rw [show cauL.getD 17 0 = 22 from rfl] at hq
    subst hbv
    subst ho hc hlv
    rw [hl]
    go_wp2
    go_ret2
    exact ⟨rfl, k2⟩
  · have hq := hT1.cau (k := 23) (by omega)
    rw [show cauL.getD 23 0 = 2 from rfl] at hq
    subst hbv
    subst ho hc hlv
    rw [hl]
    go_wp2
    go_ret2
    exact ⟨rfl, k2⟩
/-- What a right answers. -/
def ansI (S : StM) (o t : Int) : Int :=
  if lvlI S = 1 ∧ (bits .and .u64 (S.C 0) t != 0) = true then 2 else
  if lvlI S = 5 ∧ (bits .and .u64 (S.C 16) t != 0) = true then 22 else cauL.getD (o.toNat * 6 + (lvlI S).toNat) 0
theorem ans_any {w : World} (hT : Tab9 w) {S : StM} (o t : Int) (ho : o = 0 ∨ o = 1 ∨ o = 2 ∨ o = 3) :
    Calls Tryd.prog 24 #[.agg #[.int .i64 o, .int .u64 t], .agg (rowOf 65 (stF S))] w fun e w' => e = .returned (.tuple #[.int .u64 (ansI S o t), .bool (ansI S o t == 0)]) ∧ Kept w w' := by
  rcases lvl_ways S with hl | hl | hl | hl | hl
  · have e : ansI S o t = cauL.getD (o.toNat * 6 + 0) 0 := by
      unfold ansI
      rw [hl, if_neg (by simp), if_neg (by simp)]
      rfl
    rw [e]
    rcases ho with rfl | rfl | rfl | rfl
    · exact ans_pl hT 0 t 0 0 hl (by decide)
    · exact ans_pl hT 1 t 0 2 hl (by decide)
    · exact ans_pl hT 2 t 0 2 hl (by decide)
    · exact ans_pl hT 3 t 0 2 hl (by decide)
  · cases hb : (bits .and .u64 (S.C 0) t != 0)
    · have e : ansI S o t = cauL.getD (o.toNat * 6 + 1) 0 := by
        unfold ansI
        rw [hl, hb, if_neg (by simp), if_neg (by simp)]
        rfl
      rw [e]
      rcases ho with rfl | rfl | rfl | rfl
      · exact ans_1 hT 0 t 1 0 false hb hl (by decide)
      · exact ans_1 hT 1 t 1 0 false hb hl (by decide)
      · exact ans_1 hT 2 t 1 0 false hb hl (by decide)
      · exact ans_1 hT 3 t 1 2 false hb hl (by decide)
    · have e : ansI S o t = 2 := by
        unfold ansI
        rw [hl, hb, if_pos ⟨rfl, rfl⟩]
      rw [e]
      rcases ho with rfl | rfl | rfl | rfl
      · exact ans_1 hT 0 t 1 2 true hb hl (by decide)
      · exact ans_1 hT 1 t 1 2 true hb hl (by decide)
      · exact ans_1 hT 2 t 1 2 true hb hl (by decide)
      · exact ans_1 hT 3 t 1 2 true hb hl (by decide)
  · have e : ansI S o t = cauL.getD (o.toNat * 6 + 3) 0 := by
      unfold ansI
      rw [hl, if_neg (by simp), if_neg (by simp)]
      rfl
    rw [e]
    rcases ho with rfl | rfl | rfl | rfl
    · exact ans_pl hT 0 t 3 0 hl (by decide)
    · exact ans_pl hT 1 t 3 0 hl (by decide)
    · exact ans_pl hT 2 t 3 0 hl (by decide)
    · exact ans_pl hT 3 t 3 0 hl (by decide)
  · have e : ansI S o t = cauL.getD (o.toNat * 6 + 4) 0 := by
      unfold ansI
      rw [hl, if_neg (by simp), if_neg (by simp)]
      rfl
    rw [e]
    rcases ho with rfl | rfl | rfl | rfl
    · exact ans_pl hT 0 t 4 0 hl (by decide)
    · exact ans_pl hT 1 t 4 22 hl (by decide)
    · exact ans_pl hT 2 t 4 22 hl (by decide)
    · exact ans_pl hT 3 t 4 2 hl (by decide)
  · cases hb : (bits .and .u64 (S.C 16) t != 0)
    · have e : ansI S o t = cauL.getD (o.toNat * 6 + 5) 0 := by
        unfold ansI
        rw [hl, hb, if_neg (by simp), if_neg (by simp)]
        rfl
      rw [e]
      rcases ho with rfl | rfl | rfl | rfl
      · exact ans_5 hT 0 t 5 0 false hb hl (by decide)
      · exact ans_5 hT 1 t 5 0 false hb hl (by decide)
      · exact ans_5 hT 2 t 5 22 false hb hl (by decide)
      · exact ans_5 hT 3 t 5 2 false hb hl (by decide)
    · have e : ansI S o t = 22 := by
        unfold ansI
        rw [hl, hb, if_neg (by simp), if_pos ⟨rfl, rfl⟩]
      rw [e]
      rcases ho with rfl | rfl | rfl | rfl
      · exact ans_5 hT 0 t 5 22 true hb hl (by decide)
      · exact ans_5 hT 1 t 5 22 true hb hl (by decide)
      · exact ans_5 hT 2 t 5 22 true hb hl (by decide)
      · exact ans_5 hT 3 t 5 22 true hb hl (by decide)
set_option maxHeartbeats 1000000 in
theorem writes_any (op rd rs1 rs2 imm csr : Int) (w : World) :
    Calls Tryd.prog 30 #[.agg #[.int .i64 op, .int .i64 rd, .int .i64 rs1, .int .i64 rs2, .int .i64 imm, .int .i64 csr]] w fun e w' => e = .returned (.bool (wrB op rs1 imm)) ∧ Kept w w' := by
  unfold wrB
  cases h1 : op == 54 <;> cases h2 : op == 57 <;> cases h3 : rs1 != 0 <;> cases h4 : imm != 0
  all_goals
    go_enter Tryd.func30, Tryd.ntmps30
    go_wp2
    go_ret
    exact ⟨rfl, (Only.refl _ w).alloc _⟩
def lentB (S : StM) : Bool := (lvlI S == 0) && bitB (S.C 16) 9
def waitB (S : StM) : Bool := decide (4 ≤ lvlI S) && bitB (S.C 0) 21
set_option maxRecDepth 10000 in
set_option maxHeartbeats 1000000 in
theorem lent_any {S : StM} (hS : S.Ok) (w : World) :
    Calls Tryd.prog 31 #[.agg (rowOf 65 (stF S))] w fun e w' => e = .returned (.bool (lentB S)) ∧ Kept w w' := by
  have h1 := st_new w S
  have k0 : Kept w (w.alloc (.cells (rowOf 65 (stF S)) 26)) := (Only.refl _ w).alloc _
  have hb := bit_ne (hS.C 16 (by omega)) 9 (by omega) 512 rfl
  unfold lentB
  rcases lvl_ways S with hl | hl | hl | hl | hl
  all_goals
    cases hc : bitB (S.C 16) 9
    all_goals
      rw [hc] at hb
      rw [hl]
      go_enter Tryd.func31, Tryd.ntmps31
      go_wp2_with (refine wpList_load_is (by rfl) 26 _ rfl rfl h1 _ Tryd.underlying26 rfl st_size ?_)
      refine (llevel_c S _).mono ?_
      rintro e w1 ⟨rfl, k1⟩
      have c0 := (h1.kept k1).c (i := 16) (by omega)
      rw [hl]
      go_wp2
      go_ret
      exact ⟨rfl, k0.then k1⟩
set_option maxRecDepth 10000 in
set_option maxHeartbeats 1000000 in
theorem wait_any {S : StM} (hS : S.Ok) (w : World) :
    Calls Tryd.prog 32 #[.agg (rowOf 65 (stF S))] w fun e w' => e = .returned (.bool (waitB S)) ∧ Kept w w' := by
  have h1 := st_new w S
  have k0 : Kept w (w.alloc (.cells (rowOf 65 (stF S)) 26)) := (Only.refl _ w).alloc _
  have hb := bit_ne (hS.C 0 (by omega)) 21 (by omega) 2097152 rfl
  unfold waitB
  rcases lvl_ways S with hl | hl | hl | hl | hl
  all_goals
    cases hc : bitB (S.C 0) 21
    all_goals
      rw [hc] at hb
      rw [hl]
      go_enter Tryd.func32, Tryd.ntmps32
      go_wp2_with (refine wpList_load_is (by rfl) 26 _ rfl rfl h1 _ Tryd.underlying26 rfl st_size ?_)
      refine (llevel_c S _).mono ?_
      rintro e w1 ⟨rfl, k1⟩
      have c0 := (h1.kept k1).c (i := 0) (by omega)
      rw [hl]
      go_wp2
      go_ret
      exact ⟨rfl, k0.then k1⟩
end Go.Proofs.YthmanpfooegbcaaDoor
