/-
  The calls of package mem, handed on from one to the next: one memory that the call itself made.
-/
import Derived.Test.YtpplclenokfpeaaDoorTSame
namespace Go.Proofs.YtpplclenokfpeaaDoor
open Go.RowKit
/-- The bytes behind a write, refused or not. -/
def wrZ (B : Nat → Int) (a n v : Int) : Nat → Int := if codeI a n = 0 then wrF B a.toNat n.toNat v else B
theorem code_fits {a n : Int} (h0 : 0 ≤ a) (h : codeI a n = 0) : ∃ A N : Nat, a = A ∧ n = N ∧ (N = 1 ∨ N = 2 ∨ N = 4 ∨ N = 8) ∧ A + N ≤ 32768 := by
  obtain ⟨h1, h2, h3⟩ := code_zero h
  obtain ⟨A, rfl⟩ := Int.eq_ofNat_of_zero_le h0
  obtain ⟨M, rfl⟩ := Int.eq_ofNat_of_zero_le (show 0 ≤ n by omega)
  exact ⟨A, M, rfl, rfl, by omega, by rcases h1 with e | e | e | e <;> rw [e] at h2 <;> omega⟩
theorem mwrite_any (a n v : Int) (ha : U a) (w : World) (p q : Nat) (B : Nat → Int) (hm : ProgAt w p q B) :
    Calls Tryd.prog 21 #[.pointer (some ⟨p, 0, none⟩), .int .u64 a, .int .i64 n, .int .u64 v] w fun e w' => e = .returned (.int .i64 (codeI a n)) ∧ ProgAt w' p q (wrZ B a n v) ∧ Only (fun i => i = q) w w' := by
  unfold wrZ
  by_cases h : codeI a n = 0
  · obtain ⟨A, N, rfl, rfl, h1, h2⟩ := code_fits ha.1 h
    rw [if_pos h, h]
    exact mwrite_yes A N v h1 h2 h w p q B hm
  · rw [if_neg h]
    exact (mwrite_no a n v ha h w p q B hm).mono fun _ _ hx => ⟨hx.1, hm.kept hx.2, hx.2.mono fun _ f => f.elim⟩
/-- The bytes behind a text laid, refused or not. -/
def layZ (B : Nat → Int) (a : Int) (s : ByteArray) : Nat → Int := if fitsB a s.size then layF B a.toNat s.data.toList else B
def layC (a : Int) (n : Nat) : Int := if fitsB a n then 0 else 60
/-- A memory that the call itself made; of what was there nothing has turned. -/
structure St (W w : World) (p q : Nat) (B : Nat → Int) : Prop where
  m : ProgAt w p q B
  k : Kept W w
  hp : W.heap.size ≤ p
  hq : W.heap.size ≤ q
theorem St.kept {W w w' : World} {p q : Nat} {B : Nat → Int} (h : St W w p q B) (g : Kept w w') : St W w' p q B := ⟨h.m.kept g, h.k.then g, h.hp, h.hq⟩
theorem new_from {W w : World} (h : Kept W w) :
    Calls Tryd.prog 20 #[] w fun e w' => ∃ p q, e = .returned (.pointer (some ⟨p, 0, none⟩)) ∧ St W w' p q (fun _ => 0) :=
  (mnew_any w).mono fun _ _ ⟨p, q, he, hm, h1, h2, hk⟩ => ⟨p, q, he, hm, h.then hk, Nat.le_trans h.size h1, Nat.le_trans h.size h2⟩
theorem read_from {W w : World} {p q : Nat} {B : Nat → Int} (h : St W w p q B) (a n : Int) (ha : U a) :
    Calls Tryd.prog 70 #[.pointer (some ⟨p, 0, none⟩), .int .u64 a, .int .i64 n] w fun e w' => e = .returned (.tuple #[.int .u64 (rdZ B a n), .int .i64 (codeI a n)]) ∧ St W w' p q B :=
  (mread_any a n ha w p q B h.m).mono fun _ _ hx => ⟨hx.1, h.kept hx.2⟩
theorem write_from {W w : World} {p q : Nat} {B : Nat → Int} (h : St W w p q B) (a n v : Int) (ha : U a) :
    Calls Tryd.prog 21 #[.pointer (some ⟨p, 0, none⟩), .int .u64 a, .int .i64 n, .int .u64 v] w fun e w' => e = .returned (.int .i64 (codeI a n)) ∧ St W w' p q (wrZ B a n v) :=
  (mwrite_any a n v ha w p q B h.m).mono fun _ _ hx => ⟨hx.1, hx.2.1, h.k.new hx.2.2 (fun i hi => by rw [hi]; exact h.hq), h.hp, h.hq⟩
theorem same_yes {B C : Nat → Int} (h : ∀ i, i < 32768 → B i = C i) : sameM B C = true := by unfold sameM; exact @decide_eq_true _ (_) h
theorem same_no {B C : Nat → Int} (i : Nat) (hi : i < 32768) (h : B i ≠ C i) : sameM B C = false := by unfold sameM; exact @decide_eq_false _ (_) (fun e => h (e i hi))
theorem text_size (B : Nat → Int) (a n : Nat) : (textF B a n).size = n := by
  have e : (textF B a n).data.toList.length = n := by rw [text_list]; simp
  simpa using e
end Go.Proofs.YtpplclenokfpeaaDoor
