/-
  What the document's Get answers (the reference of layer 1): the same as package word's Get, for every text of at most 60 bytes, every place and every number of bytes.
-/
import Derived.Test.YtnmlkhecjohepaaBack
namespace Go.Proofs.Ytnmlkhecjohepaa
open Go.RowKit
def Acc (l : List UInt8) (a n : Int) (k : Nat) (x : Int) : Prop := U x ∧ ∀ i, i < 64 → tb x i = tb (gotAt l a n (k + i / 8)) (i % 8)
theorem acc_start (l : List UInt8) (a n : Int) (k : Nat) (h : clamp n 0 8 ≤ k) : Acc l a n k 0 := by
  refine ⟨by unfold U; omega, fun i _ => ?_⟩
  have e : gotAt l a n (k + i / 8) = 0 := by unfold gotAt; rw [if_neg (by omega)]
  rw [e]; simp [tb]
theorem acc_end (l : List UInt8) (a n x : Int) (h : Acc l a n 0 x) : x = getI l a n := by
  refine h.1.ext (U_get _ _ _) fun i hi => ?_
  rw [h.2 i hi, tb_get _ _ _ _ hi, Nat.zero_add]
theorem acc_or (l : List UInt8) (a n x : Int) (k : Nat) (h : Acc l a n (k + 1) x) : Acc l a n k (bits .or .u64 (IntKind.u64.wrap (x * 256)) (gotAt l a n k)) := by
  have hg := got_bd l a n k
  have hU : U (gotAt l a n k) := by unfold U; omega
  refine ⟨U_or _ _, fun i hi => ?_⟩
  have hs := tb_shl h.1 8 i
  rw [show (2 : Int) ^ 8 = 256 from rfl] at hs
  rw [tb_or (U_wrap _) hU, hs, decide_eq_true hi, Bool.true_and]
  by_cases h8 : 8 ≤ i
  · rw [decide_eq_true h8, Bool.true_and, h.2 _ (by omega), tb_byte _ hg _ h8, Bool.or_false, show k + 1 + (i - 8) / 8 = k + i / 8 by omega, show (i - 8) % 8 = i % 8 by omega]
  · rw [decide_eq_false h8, Bool.false_and, Bool.false_or, show k + i / 8 = k by omega, show i % 8 = i by omega]
theorem or_zero {x : Int} (hx : U x) : bits .or .u64 x 0 = x := by
  have hU0 : U 0 := by unfold U; omega
  refine (U_or _ _).ext hx fun i _ => ?_
  rw [tb_or hx hU0]; simp [tb]
theorem acc_none (l : List UInt8) (a n x : Int) (k : Nat) (h : Acc l a n (k + 1) x) (hz : gotAt l a n k = 0) : Acc l a n k (IntKind.u64.wrap (x * 256)) := by
  have := acc_or l a n x k h
  rw [hz, or_zero (U_wrap _)] at this
  exact this
theorem got_in (b : ByteArray) (a n : Int) (k : Nat) (hk : (k : Int) < clamp n 0 8) (h0 : 0 ≤ a + k) (h1 : (a + k).toNat < b.size) : gotAt b.data.toList a n k = IntKind.u64.wrap ((b[(a + k).toNat].toNat : Nat) : Int) := by
  unfold gotAt byteAt
  rw [if_pos hk, if_pos h0]
  have hs : (a + (k : Int)).toNat < b.data.toList.length := by simpa using h1
  rw [List.getD_eq_getElem?_getD, List.getElem?_eq_getElem hs]
  have := (b[(a + k).toNat]).toNat_lt
  rw [wrap_id (by unfold U; omega)]
  rfl
theorem got_out (b : ByteArray) (a n : Int) (k : Nat) (h : a + k < 0 ∨ (b.size : Int) ≤ a + k) : gotAt b.data.toList a n k = 0 := by
  unfold gotAt byteAt
  split
  · split
    · rw [List.getD_eq_getElem?_getD, List.getElem?_eq_none (by simp; omega)]; rfl
    · rfl
  · rfl
set_option linter.unusedVariables false in
set_option maxHeartbeats 1000000 in
theorem rget_walk (b : ByteArray) (a n : Int) (c : Nat) (hc : c ≤ 8) (hcl : Hid (clamp n 0 8 = c)) (hk : mx 0 (mn n 8) = (c : Int)) (hb : b.size ≤ 60) (ha : -9223372036854775808 ≤ a) (ha' : a ≤ 9223372036854775807) (w : World) :
    Calls Try.prog 19 #[.string b, .int .i64 a, .int .i64 n] w fun e w' => e = .returned (.int .u64 (getI b.data.toList a n)) ∧ w' = w := by
  have hmn := fun ts t k k' x y w => run_mn (P := Try.prog) (w := w) ts t k k' x y
  have hmx := fun ts t k k' x y w => run_mx (P := Try.prog) (w := w) ts t k k' x y
  go_enter Try.func19, Try.ntmps19
  go_wp2
  go_loop [7, 8] (fun v i => ∃ k : Nat, ∃ x : Int, k ≤ c ∧ i = .int .i64 (k - 1) ∧ v = .int .u64 x ∧ Acc b.data.toList a n k x) (fun _ i => (intOf i + 1).toNat)
  case atStart => exact ⟨c, 0, Nat.le_refl _, rfl, rfl, acc_start _ _ _ _ (by rw [show clamp n 0 8 = c from hcl]; exact Int.le_refl _)⟩
  case round =>
    obtain ⟨k, x, hk, rfl, rfl, hx⟩ := hrel
    by_cases hk0 : k = 0
    · subst hk0
      go_wp2
      go_ret
      exact ⟨ret_int (acc_end _ _ _ _ hx), rfl⟩
    · obtain ⟨j, rfl⟩ : ∃ j, k = j + 1 := ⟨k - 1, by omega⟩
      have ej : ((j + 1 : Nat) : Int) - 1 = j := by omega
      have hj0 : (0 : Int) ≤ j := by omega
      have hj8 : (j : Int) ≤ 7 := by omega
      have hjc : Hid ((j : Int) < clamp n 0 8) := by show _ < _; rw [show clamp n 0 8 = c from hcl]; omega
      rw [ej]
      have HX : Hid (Acc b.data.toList a n (j + 1) x) := hx
      clear hx hk0 ej hk
      have fin : ∀ y, Acc b.data.toList a n j y → (∃ k_1 x_1, k_1 ≤ c ∧ Value.int IntKind.i64 ((j : Int) - 1) = Value.int IntKind.i64 ((k_1 : Int) - 1) ∧ Value.int IntKind.u64 y = Value.int IntKind.u64 x_1 ∧ Acc b.data.toList a n k_1 x_1) ∧ (intOf (Value.int IntKind.i64 ((j : Int) - 1)) + 1).toNat < (intOf (Value.int IntKind.i64 (j : Int)) + 1).toNat := by
        intro y hy
        refine ⟨⟨j, y, ?_, rfl, rfl, hy⟩, ?_⟩
        · have : (j : Int) < clamp n 0 8 := hjc
          have e : clamp n 0 8 = c := hcl
          omega
        · simp [intOf]
      have FIN := (show Hid _ from fin)
      clear fin
      by_cases h1 : -8 ≤ a
      · by_cases h2 : a ≤ b.size
        · by_cases h3 : 0 ≤ a + j
          · by_cases h4 : a + j < b.size
            · go_wp2
              refine (show ∀ y, _ from FIN) _ ?_
              rw [← got_in b a n j hjc h3 (by omega)]
              exact acc_or _ _ _ _ _ HX
            · go_wp2
              exact (show ∀ y, _ from FIN) _ (acc_none _ _ _ _ _ HX (got_out b a n j (by omega)))
          · go_wp2
            exact (show ∀ y, _ from FIN) _ (acc_none _ _ _ _ _ HX (got_out b a n j (by omega)))
        · go_wp2
          exact (show ∀ y, _ from FIN) _ (acc_none _ _ _ _ _ HX (got_out b a n j (by omega)))
      · go_wp2
        exact (show ∀ y, _ from FIN) _ (acc_none _ _ _ _ _ HX (got_out b a n j (by omega)))
theorem rget_any (b : ByteArray) (a n : Int) (hb : b.size ≤ 60) (ha : -9223372036854775808 ≤ a) (ha' : a ≤ 9223372036854775807) (w : World) :
    Calls Try.prog 19 #[.string b, .int .i64 a, .int .i64 n] w fun e w' => e = .returned (.int .u64 (getI b.data.toList a n)) ∧ w' = w := by
  obtain ⟨hb1, hb2⟩ := clamp_bd n 0 8 (by omega)
  have e4 : clamp n 0 8 = mx 0 (mn n 8) := clamp_mx _ _ _ (by omega)
  exact rget_walk b a n (clamp n 0 8).toNat (by omega) (show _ = _ by omega) (by omega) hb ha ha' w
end Go.Proofs.Ytnmlkhecjohepaa
