/-
  What statement MemBack asks: a word is read as it was written, in parts too; all else stays; walked for every argument.
-/
import Derived.Test.YtgeefklpljolaaaMCodes
import Derived.Test.YtgeefklpljolaaaRefPlain
namespace Go.Proofs.Ytgeefklpljolaaa
open Go.RowKit
theorem mod_step (x : Int) (M : Nat) : x % 256 + 256 * (x / 256 % 256 ^ M) = x % 256 ^ (M + 1) := by
  rw [Int.pow_succ]
  have h1 := Int.emod_add_mul_ediv x 256
  have h2 := Int.emod_add_mul_ediv (x / 256) (256 ^ M)
  have hp : (0 : Int) < 256 ^ M := Int.pow_pos (by decide)
  have h3 : (x % 256 + 256 * (x / 256 % 256 ^ M)) + (256 ^ M * 256) * (x / 256 / 256 ^ M) = x := by
    have e : (256 ^ M * 256) * (x / 256 / 256 ^ M) = 256 * (256 ^ M * (x / 256 / 256 ^ M)) := by
      rw [Int.mul_comm (256 ^ M) 256, Int.mul_assoc]
    rw [e, Int.add_assoc, ← Int.mul_add, h2, h1]
  have b1 := Int.emod_nonneg x (show (256 : Int) ≠ 0 by decide)
  have b2 := Int.emod_lt_of_pos x (show (0 : Int) < 256 by decide)
  have b3 := Int.emod_nonneg (x / 256) (Int.ne_of_gt hp)
  have b4 := Int.emod_lt_of_pos (x / 256) hp
  have h4 : x % 256 + 256 * (x / 256 % 256 ^ M) < 256 ^ M * 256 := by omega
  conv => rhs; rw [← h3]
  rw [Int.add_mul_emod_self_left, Int.emod_eq_of_lt (by omega) h4]
theorem rd_wr (B : Nat → Int) (a n : Nat) (v : Int) : ∀ (k i : Nat), i + k ≤ n → rdF (wrF B a n v) (a + i) k = v / 256 ^ i % 256 ^ k
  | 0, i, _ => by simp [rdF, Int.emod_one]
  | k + 1, i, h => by
    have ih := rd_wr B a n v k (i + 1) (by omega)
    rw [rdF, show a + i + 1 = a + (i + 1) by omega, ih]
    have e : wrF B a n v (a + i) = v / 256 ^ i % 256 := by
      unfold wrF
      rw [if_pos (by omega), Nat.add_sub_cancel_left]
    rw [e, Int.pow_succ (256 : Int) i, ← Int.ediv_ediv_of_nonneg (Int.le_of_lt (Int.pow_pos (by decide)))]
    exact mod_step _ _
theorem and_ones_mod {x : Int} (hx : U x) (m : Nat) (hm : m ≤ 64) : bits .and .u64 x (onesI (m : Int)) = x % 2 ^ m := by
  obtain ⟨X, rfl, hX⟩ := hx.nat
  have e : (X : Int) % 2 ^ m = ((X % 2 ^ m : Nat) : Int) := by simp
  have hle : X % 2 ^ m ≤ X := Nat.mod_le _ _
  rw [e]
  refine (U_and _ _).ext ⟨by omega, by omega⟩ fun i _ => ?_
  rw [tb_and ⟨by omega, by omega⟩ (U_ones _), tb_ones _ (by omega) (by omega)]
  simp only [tb, Int.toNat_natCast, Nat.testBit_mod_two_pow]
  rw [Bool.and_comm]
  congr 1
  simp
theorem pow_bytes (k : Nat) : (2 : Int) ^ (8 * k) = 256 ^ k := by rw [Int.pow_mul]; rfl
theorem part_bits {v : Int} (hv : U v) (i k : Nat) (hi : i < 8) (h : i + k ≤ 8) : bitsI v ((8 * i : Nat) : Int) ((8 * k : Nat) : Int) = v / 256 ^ i % 256 ^ k := by
  have hlo : loI ((8 * i : Nat) : Int) = ((8 * i : Nat) : Int) := by unfold loI; exact clamp_id _ _ _ (by omega) (by omega)
  have hma : manyI ((8 * i : Nat) : Int) ((8 * k : Nat) : Int) = ((8 * k : Nat) : Int) := by unfold manyI; rw [hlo]; exact clamp_id _ _ _ (by omega) (by omega)
  unfold bitsI
  rw [hlo, hma, Int.toNat_natCast, and_ones_mod (U_shr hv _) _ (by omega), pow_bytes, pow_bytes]
theorem zext_bytes {v : Int} (hv : U v) (k : Nat) (h0 : 1 ≤ k) (h : k ≤ 8) : zextI v ((8 * k : Nat) : Int) = v % 256 ^ k := by
  rw [← and_ones hv ((8 * k : Nat) : Int) ((8 * k : Nat) : Int) (clamp_id _ _ _ (by omega) (by omega)), and_ones_mod hv _ (by omega), pow_bytes]
/-- Memory behind the two writes. -/
def mB (A : Nat) (v u : Int) : Nat → Int := wrF (wrF (fun _ => 0) A 8 v) (A + 8) 8 u
theorem mB_low {A j : Nat} {v u : Int} (h : j < A + 8) : mB A v u j = wrF (fun _ => 0) A 8 v j :=
  if_neg (by omega)
theorem wrZ_yes {B : Nat → Int} {A N : Nat} {v : Int} (h : codeI (A : Int) (N : Int) = 0) : wrZ B (A : Int) (N : Int) v = wrF B A N v := by
  unfold wrZ; rw [if_pos h, Int.toNat_natCast, Int.toNat_natCast]
theorem rdZ_yes {B : Nat → Int} {A N : Nat} (h : codeI (A : Int) (N : Int) = 0) : rdZ B (A : Int) (N : Int) = rdF B A N := by
  unfold rdZ; rw [if_pos h, Int.toNat_natCast, Int.toNat_natCast]
theorem code_in {A i k : Nat} (hA : A % 8 = 0) (h : A + 16 ≤ 32768) (hk : k = 1 ∨ k = 2 ∨ k = 4 ∨ k = 8) (hi : i % k = 0) (hik : i ≤ 8) : codeI ((A + i : Nat) : Int) (k : Int) = 0 := by
  refine code_0 (by omega) ?_ (by omega)
  rcases hk with rfl | rfl | rfl | rfl <;> omega
theorem back_part {A i k : Nat} {v u : Int} (hA : A % 8 = 0) (h : A + 16 ≤ 32768) (hk : k = 1 ∨ k = 2 ∨ k = 4 ∨ k = 8) (hi : i % k = 0) (hik : i + k ≤ 8) (hv : U v) :
    rdZ (mB A v u) ((A + i : Nat) : Int) (k : Int) = bitsI v ((8 * i : Nat) : Int) ((8 * k : Nat) : Int) := by
  rw [rdZ_yes (code_in hA h hk hi (by omega)), part_bits hv i k (by omega) hik]
  rw [rd_congr (C := wrF (fun _ => 0) A 8 v) k (A + i) (fun j h1 h2 => mB_low (by omega))]
  exact rd_wr _ A 8 v k i hik
theorem back_next {A : Nat} {v u : Int} (hA : A % 8 = 0) (h : A + 16 ≤ 32768) (hu : U u) : rdZ (mB A v u) ((A + 8 : Nat) : Int) 8 = u := by
  have e := rdZ_yes (B := mB A v u) (A := A + 8) (N := 8) (code_in (i := 8) (k := 8) hA h (by omega) (by omega) (by omega))
  have r := rd_wr (wrF (fun _ => 0) A 8 v) (A + 8) 8 u 8 0 (by omega)
  rw [Nat.add_zero] at r
  rw [show ((8 : Nat) : Int) = 8 from rfl] at e
  rw [e]
  unfold mB
  rw [r]
  have := hu.1; have := hu.2
  simp only [Int.pow_zero, Int.ediv_one]
  exact Int.emod_eq_of_lt (by omega) (by omega)
theorem back_whole {A : Nat} {v u : Int} (hA : A % 8 = 0) (h : A + 16 ≤ 32768) (hv : U v) : rdZ (mB A v u) (A : Int) 8 = v := by
  have e := back_part (u := u) (i := 0) (k := 8) hA h (by omega) (by omega) (by omega) hv
  rw [Nat.add_zero, show ((8 : Nat) : Int) = 8 from rfl] at e
  rw [e, part_bits hv 0 8 (by omega) (by omega)]
  have := hv.1; have := hv.2
  simp only [Int.pow_zero, Int.ediv_one]
  exact Int.emod_eq_of_lt (by omega) (by omega)
theorem rd_zero_iff {B : Nat → Int} : ∀ (n a : Nat), (∀ i, a ≤ i → i < a + n → 0 ≤ B i ∧ B i < 256) → (rdF B a n = 0 ↔ ∀ i, a ≤ i → i < a + n → B i = 0)
  | 0, a, _ => ⟨fun _ i h1 h2 => by omega, fun _ => rfl⟩
  | n + 1, a, hb => by
    have ih := rd_zero_iff n (a + 1) (fun i h1 h2 => hb i (by omega) (by omega))
    have h0 := hb a (by omega) (by omega)
    rw [rdF]
    constructor
    · intro h i h1 h2
      have hz : B a = 0 := by omega
      by_cases e : i = a
      · rw [e, hz]
      · exact ih.1 (by omega) i (by omega) (by omega)
    · intro h
      rw [h a (by omega) (by omega), ih.2 fun i h1 h2 => h i (by omega) (by omega)]
      rfl
theorem back_same {A k : Nat} {v u : Int} (h : A + 16 ≤ 32768) (hk1 : 1 ≤ k) (hk : k ≤ 8) (hv : U v) : sameM (wrF (mB A v u) A k 0) (mB A v u) = (zextI v ((8 * k : Nat) : Int) == 0) := by
  rw [zext_bytes hv k hk1 hk]
  have r : rdF (mB A v u) A k = v % 256 ^ k := by
    have r0 := rd_wr (fun _ => 0) A 8 v k 0 (by omega)
    rw [Nat.add_zero, Int.pow_zero, Int.ediv_one] at r0
    rw [← r0]
    exact rd_congr k A (fun j h1 h2 => mB_low (by omega))
  have hb : ∀ i, A ≤ i → i < A + k → 0 ≤ mB A v u i ∧ mB A v u i < 256 := fun i h1 h2 => by
    have e : mB A v u i = v / 256 ^ (i - A) % 256 := by
      unfold mB wrF
      rw [if_neg (by omega), if_pos (by omega)]
    rw [e]
    exact ⟨Int.emod_nonneg _ (by decide), Int.emod_lt_of_pos _ (by decide)⟩
  have hi := rd_zero_iff k A hb
  rw [r] at hi
  have hw : ∀ i, wrF (mB A v u) A k 0 i = if A ≤ i ∧ i < A + k then 0 else mB A v u i := fun i => by
    conv => lhs; unfold wrF
    simp only [Int.zero_ediv, Int.zero_emod]
  by_cases hz : v % 256 ^ k = 0
  · rw [same_yes fun i _ => ?_, beq_iff_eq.2 hz]
    rw [hw]
    split
    · exact (hi.1 hz i (by omega) (by omega)).symm
    · rfl
  · rw [beq_eq_false_iff_ne.2 hz]
    have hn : ¬ ∀ i, A ≤ i → i < A + k → mB A v u i = 0 := fun hx => hz (hi.2 hx)
    obtain ⟨i, hi2⟩ := Classical.not_forall.1 hn
    have h1 : A ≤ i := Classical.byContradiction fun hx => hi2 fun h => absurd h hx
    have h2 : i < A + k := Classical.byContradiction fun hx => hi2 fun _ h => absurd h hx
    refine same_no i (by omega) ?_
    rw [hw, if_pos ⟨h1, h2⟩]
    exact fun e => hi2 fun _ _ => e.symm
/-- Two memories that the call itself made. -/
structure St2 (W w : World) (p q p' q' : Nat) (B C : Nat → Int) : Prop where
  m : ProgAt w p q B
  c : ProgAt w p' q' C
  k : Kept W w
  hp : W.heap.size ≤ p
  hq : W.heap.size ≤ q
  hp' : W.heap.size ≤ p'
  hq' : W.heap.size ≤ q'
  n1 : p ≠ q'
  n2 : q ≠ q'
  n3 : p' ≠ q
theorem St2.kept {W w w' : World} {p q p' q' : Nat} {B C : Nat → Int} (h : St2 W w p q p' q' B C) (g : Kept w w') : St2 W w' p q p' q' B C := ⟨h.m.kept g, h.c.kept g, h.k.then g, h.hp, h.hq, h.hp', h.hq', h.n1, h.n2, h.n3⟩
theorem copy_from {W w : World} {p q : Nat} {B : Nat → Int} (h : St W w p q B) :
    Calls Try.prog 10 #[.pointer (some ⟨p, 0, none⟩)] w fun e w' => ∃ p' q', e = .returned (.pointer (some ⟨p', 0, none⟩)) ∧ St2 W w' p q p' q' B B :=
  (mcopy_any w p q B h.m).mono fun _ _ ⟨p', q', he, hm, h1, h2, hk⟩ => by
    have l := h.m.lt
    exact ⟨p', q', he, h.m.kept hk, hm, h.k.then hk, h.hp, h.hq, Nat.le_trans h.k.size h1, Nat.le_trans h.k.size h2, by omega, by omega, by omega⟩
theorem write2_from {W w : World} {p q p' q' : Nat} {B C : Nat → Int} (h : St2 W w p q p' q' B C) (a n v : Int) (ha : U a) :
    Calls Try.prog 12 #[.pointer (some ⟨p', 0, none⟩), .int .u64 a, .int .i64 n, .int .u64 v] w fun e w' => e = .returned (.int .i64 (codeI a n)) ∧ St2 W w' p q p' q' B (wrZ C a n v) :=
  (mwrite_any a n v ha w p' q' C h.c).mono fun _ _ hx => ⟨hx.1, h.m.carry hx.2.2 (fun e => h.n1 e) (fun e => h.n2 e), hx.2.1, h.k.new hx.2.2 (fun i hi => by rw [hi]; exact h.hq'), h.hp, h.hq, h.hp', h.hq', h.n1, h.n2, h.n3⟩
theorem read2_from {W w : World} {p q p' q' : Nat} {B C : Nat → Int} (h : St2 W w p q p' q' B C) (a n : Int) (ha : U a) :
    Calls Try.prog 14 #[.pointer (some ⟨p, 0, none⟩), .int .u64 a, .int .i64 n] w fun e w' => e = .returned (.tuple #[.int .u64 (rdZ B a n), .int .i64 (codeI a n)]) ∧ St2 W w' p q p' q' B C :=
  (mread_any a n ha w p q B h.m).mono fun _ _ hx => ⟨hx.1, h.kept hx.2⟩
theorem same2_from {W w : World} {p q p' q' : Nat} {B C : Nat → Int} (h : St2 W w p q p' q' B C) :
    Calls Try.prog 20 #[.pointer (some ⟨p', 0, none⟩), .pointer (some ⟨p, 0, none⟩)] w fun e w' => e = .returned (.bool (sameM C B)) ∧ St2 W w' p q p' q' B C :=
  (msame_any w p' q' p q C B h.c h.m).mono fun _ _ hx => ⟨hx.1, h.kept hx.2⟩
end Go.Proofs.Ytgeefklpljolaaa
