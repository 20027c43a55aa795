/-
  A second table that names a row of frames: what a translation through it alone comes to. Plain facts: no call of the program is walked here.
-/
import Derived.Test.YtpplclenokfpeaaDoorTwoAl
namespace Go.Proofs.YtpplclenokfpeaaDoor
open Go.RowKit
/-- Memory behind the table's root and its first entries. -/
def ownM (F : Nat → Int) : Nat → (Nat → Int)
  | 0 => wrZ (fun _ => 0) 256 8 (makI 2 1)
  | n + 1 => wrZ (ownM F n) (512 + 8 * (n : Int)) 8 (makI (F n % 128) 223)
theorem leaf_223' {f : Int} (f0 : 0 ≤ f) (f1 : f ≤ 255) : leafE (makI f 223) = true := by
  rw [made_leaf f0 f1 (by omega) (by omega), made_is f0 f1 (by omega) (by omega)]; decide
theorem own_ent (F : Nat → Int) : ∀ n : Nat, n ≤ 16 → ∀ f i : Int, entE (ownM F n) f i = if f = 2 ∧ 0 ≤ i ∧ i < n then makI (F i.toNat % 128) 223 else if f = 1 ∧ i = 0 then makI 2 1 else 0
  | 0, _, f, i => by
    have h := ent_wr (B := fun _ => 0) (f := f) (i := i) (g := 1) (j := 0) (v := makI 2 1) (by decide) (U_made 2 1)
    unfold ownM
    rw [show (256 : Int) = 1 * 256 + 8 * 0 by omega, h, ent_zero, if_neg (show ¬ (f = 2 ∧ 0 ≤ i ∧ i < (0 : Nat)) by omega)]
  | n + 1, hn, f, i => by
    have ih := own_ent F n (by omega) f i
    have ho : entO 2 (n : Int) = true := decide_eq_true (by omega)
    have h := ent_wr (B := ownM F n) (f := f) (i := i) (v := makI (F n % 128) 223) ho (U_made _ _)
    unfold ownM
    rw [show (512 + 8 * (n : Int) : Int) = 2 * 256 + 8 * n by omega, h, ih]
    by_cases e : f = 2 ∧ i = n
    · obtain ⟨rfl, rfl⟩ := e
      rw [if_pos ⟨rfl, rfl⟩, if_pos (by omega)]
      rfl
    · rw [if_neg e]
      by_cases e2 : f = 2 ∧ 0 ≤ i ∧ i < n
      · rw [if_pos e2, if_pos (show f = 2 ∧ 0 ≤ i ∧ i < ((n + 1 : Nat) : Int) by omega)]
      · rw [if_neg e2, if_neg (show ¬ (f = 2 ∧ 0 ≤ i ∧ i < ((n + 1 : Nat) : Int)) by omega)]
/-- The frame that a place's page is named. -/
def ownG (F : Nat → Int) (a : Int) : Int := F (a / 256).toNat % 128
theorem ownG_bd (F : Nat → Int) (a : Int) : 0 ≤ ownG F a ∧ ownG F a < 128 := by unfold ownG; omega
theorem is_ptr : isE (makI 2 1) = true ∧ leafE (makI 2 1) = false ∧ frI (makI 2 1) = 2 := by decide +kernel
theorem is_nought : isE 0 = false ∧ leafE 0 = false := by decide +kernel
theorem own_walk {B : Nat → Int} (F : Nat → Int) (n : Nat) (hn : n ≤ 16) (he : ∀ f i : Int, f = 1 ∨ f = 2 → entE B f i = if f = 2 ∧ 0 ≤ i ∧ i < n then makI (F i.toNat % 128) 223 else if f = 1 ∧ i = 0 then makI 2 1 else 0) (a : Int) (a0 : 0 ≤ a) :
    wkS B 1 a = if a < 256 * n then ⟨makI (ownG F a) 223, ownG F a, 0⟩ else ⟨0, 0, 1⟩ := by
  have hl := low_bd a
  have ht := top_bd a
  have hg := ownG_bd F a
  unfold wkS
  by_cases h1 : 65536 ≤ a
  · rw [if_pos h1, if_neg (by omega)]
  · rw [if_neg h1]
    have o1 : entO 1 (topI a) = true := decide_eq_true (by omega)
    rw [o1, if_neg (by decide)]
    by_cases h2 : topI a = 0
    · have E1 : entE B 1 (topI a) = makI 2 1 := by
        rw [he 1 _ (.inl rfl), if_neg (show ¬ ((1 : Int) = 2 ∧ 0 ≤ topI a ∧ topI a < n) by omega), if_pos ⟨rfl, h2⟩]
      have hlow : lowI a = a / 256 := by unfold topI at h2; unfold lowI; omega
      rw [E1, is_ptr.1, is_ptr.2.1, is_ptr.2.2, if_neg (by decide), if_neg (by decide)]
      have o2 : entO 2 (lowI a) = true := decide_eq_true (by omega)
      rw [o2, if_neg (by decide)]
      by_cases h3 : a < 256 * n
      · have E2 : entE B 2 (lowI a) = makI (ownG F a) 223 := by
          rw [he 2 _ (.inr rfl), if_pos (show (2 : Int) = 2 ∧ 0 ≤ lowI a ∧ lowI a < n by omega), hlow]
          rfl
        rw [E2, if_pos h3, leaf_223' (by omega) (by omega), if_pos rfl, made_frame (by omega) (by omega)]
      · have E2 : entE B 2 (lowI a) = 0 := by
          rw [he 2 _ (.inr rfl), if_neg (show ¬ ((2 : Int) = 2 ∧ 0 ≤ lowI a ∧ lowI a < n) by omega), if_neg (by omega)]
        rw [E2, is_nought.2, if_neg (by decide), if_neg h3]
    · have E1 : entE B 1 (topI a) = 0 := by
        rw [he 1 _ (.inl rfl), if_neg (show ¬ ((1 : Int) = 2 ∧ 0 ≤ topI a ∧ topI a < n) by omega), if_neg (by omega)]
      have h4 : ¬ a < 256 * n := by unfold topI at h2; omega
      rw [E1, is_nought.1, if_pos rfl, if_neg h4]
/-- The state of the statement. -/
def ownS0 : StM := ⟨fun _ => 0, 0, 1, true, fun _ => 0, 0⟩
def ownS : StM := ownS0.setC 21 9223372036855103489
theorem ownS0_ok : ownS0.Ok := ⟨fun _ _ => by unfold U ownS0; simp, by unfold U ownS0; simp, by unfold I64 ownS0; simp, fun _ _ => by unfold U ownS0; simp, by unfold U ownS0; simp⟩
theorem ownS_ok : ownS.Ok := ownS0_ok.setC 21 (by unfold U; omega)
def ownA : AskM := ⟨false, true, false, false, 0, 5, 0, 1⟩
theorem own_ask : askS ownS 1 true = ownA ∧ askS ownS 0 true = ownA := ⟨by kernel_rfl, by kernel_rfl⟩
def ownK (l : Int) : Prop := l = 1 ∨ l = 0
theorem own_may (k : Int) (hk : k = 0 ∨ k = 1 ∨ k = 2) : mayE 223 (knd k false) true false false = true := by
  rcases hk with rfl | rfl | rfl <;> decide +kernel
/-- The entry that it leaves. -/
def ownE (m g : Int) : EntM := ⟨true, true, m, 0, 5, g, 255, 223, m⟩
/-- What the translation comes to. -/
def ownT (F : Nat → Int) (n : Nat) (a k : Int) : TrM :=
  if a < 256 * n then ⟨ownG F a * 256 + a % 256, ⟨true, true, a / 256, 0, 5, ownG F a, 255, 223, a / 256⟩, fltNone, true⟩ else ⟨0, entNone, ⟨gfC k, a, a / 4, true⟩, false⟩
theorem own_tr (F : Nat → Int) (n : Nat) (hn : n ≤ 16) (a k l : Int) (a0 : 0 ≤ a) (hk : k = 0 ∨ k = 1 ∨ k = 2) (hl : l = 1 ∨ l = 0) : trS (ownM F n) ownS a k l true false = ownT F n a k := by
  have hg := ownG_bd F a
  have ha : askS ownS l true = ownA := by
    rcases hl with rfl | rfl
    · exact own_ask.1
    · exact own_ask.2
  have hw := own_walk F n hn (fun f i _ => own_ent F n hn f i) a a0
  unfold trS ownT
  rw [ha]
  unfold ownA
  rw [if_neg (by simp)]
  by_cases h1 : 65536 ≤ a
  · rw [if_pos h1, if_neg (by simp), if_neg (by omega)]
  · rw [if_neg h1, if_pos rfl]
    unfold endS gstS
    rw [hw]
    by_cases h2 : a < 256 * n
    · have e1 : makI (ownG F a) 223 % 256 = 223 := by unfold makI; omega
      simp only [if_pos h2, if_neg h1, e1, own_may k hk]
      have e2 : (ownG F a * 256 + a % 256) / 256 = ownG F a := by omega
      have e3 : a / 256 % 256 = a / 256 := by omega
      simp [e2, e3]
    · simp [if_neg h2]
end Go.Proofs.YtpplclenokfpeaaDoor
