/-
  Entries of tables behind a write; behind a page laid. Plain facts: no call of the program is walked here.
-/
import Derived.Test.YtpplclenokfpeaaDoorWkDoc
import Derived.Test.YtpplclenokfpeaaDoorMemFace
import Derived.Test.YtpplclenokfpeaaDoorRefWrite
import Derived.Test.YtpplclenokfpeaaDoorRefPlain
namespace Go.Proofs.YtpplclenokfpeaaDoor
open Go.RowKit
theorem mod_step (x : Int) (M : Nat) : x % 256 + 256 * (x / 256 % 256 ^ M) = x % 256 ^ (M + 1) := by
  rw [Int.pow_succ]
  have h1 := Int.emod_add_mul_ediv x 256
  have h2 := Int.emod_add_mul_ediv (x / 256) (256 ^ M)
  have hp : (0 : Int) < 256 ^ M := Int.pow_pos (by decide)
  have h3 : (x % 256 + 256 * (x / 256 % 256 ^ M)) + (256 ^ M * 256) * (x / 256 / 256 ^ M) = x := by
    have e : (256 ^ M * 256) * (x / 256 / 256 ^ M) = 256 * (256 ^ M * (x / 256 / 256 ^ M)) := by
      rw [Int.mul_comm (256 ^ M) 256, Int.mul_assoc]
    rw [e, Int.add_assoc, ← Int.mul_add, h2, h1]
  have b1 := Int.emod_nonneg x (show (256 : Int) ≠ 0 by decide)
  have b2 := Int.emod_lt_of_pos x (show (0 : Int) < 256 by decide)
  have b3 := Int.emod_nonneg (x / 256) (Int.ne_of_gt hp)
  have b4 := Int.emod_lt_of_pos (x / 256) hp
  have h4 : x % 256 + 256 * (x / 256 % 256 ^ M) < 256 ^ M * 256 := by omega
  conv => rhs; rw [← h3]
  rw [Int.add_mul_emod_self_left, Int.emod_eq_of_lt (by omega) h4]
theorem rd_wr (B : Nat → Int) (a n : Nat) (v : Int) : ∀ (k i : Nat), i + k ≤ n → rdF (wrF B a n v) (a + i) k = v / 256 ^ i % 256 ^ k
  | 0, i, _ => by simp [rdF, Int.emod_one]
  | k + 1, i, h => by
    have ih := rd_wr B a n v k (i + 1) (by omega)
    rw [rdF, show a + i + 1 = a + (i + 1) by omega, ih]
    have e : wrF B a n v (a + i) = v / 256 ^ i % 256 := by
      unfold wrF
      rw [if_pos (by omega), Nat.add_sub_cancel_left]
    rw [e, Int.pow_succ (256 : Int) i, ← Int.ediv_ediv_of_nonneg (Int.le_of_lt (Int.pow_pos (by decide)))]
    exact mod_step _ _
theorem rd_word {B : Nat → Int} {a : Nat} {v : Int} (hv : U v) : rdF (wrF B a 8 v) a 8 = v := by
  have r := rd_wr B a 8 v 8 0 (by omega)
  rw [Nat.add_zero] at r
  rw [r]
  have := hv.1; have := hv.2
  simp only [Int.pow_zero, Int.ediv_one]
  exact Int.emod_eq_of_lt (by omega) (by omega)
theorem rd_far {B : Nat → Int} {a b : Nat} {v : Int} (h : a + 8 ≤ b ∨ b + 8 ≤ a) : rdF (wrF B a 8 v) b 8 = rdF B b 8 :=
  rd_congr 8 b fun i h1 h2 => by unfold wrF; rw [if_neg (by omega)]
theorem ent_code {f i : Int} (h : entO f i = true) : codeI (f * 256 + 8 * i) 8 = 0 := by
  have hh := of_decide_eq_true h
  exact code_0 (by omega) (by omega) (by omega)
theorem wrZ_word {B : Nat → Int} {a v : Int} (h : codeI a 8 = 0) : wrZ B a 8 v = wrF B a.toNat 8 v := by
  unfold wrZ; rw [if_pos h]; rfl
/-- What a write of an entry leaves of all entries. -/
theorem ent_wr {B : Nat → Int} {f i g j v : Int} (ho : entO g j = true) (hv : U v) : entE (wrZ B (g * 256 + 8 * j) 8 v) f i = if f = g ∧ i = j then v else entE B f i := by
  have hg := of_decide_eq_true ho
  rw [wrZ_word (ent_code ho)]
  unfold entE
  cases h : entO f i
  · rw [cond_false, cond_false, if_neg]
    rintro ⟨rfl, rfl⟩
    rw [ho] at h
    cases h
  · have hf := of_decide_eq_true h
    rw [cond_true, cond_true]
    by_cases e : f = g ∧ i = j
    · rw [if_pos e, e.1, e.2]
      exact rd_word hv
    · rw [if_neg e]
      refine rd_far ?_
      by_cases e1 : f = g
      · have : i ≠ j := fun x => e ⟨e1, x⟩
        omega
      · omega
theorem rd_zero : ∀ (n a : Nat), rdF (fun _ => 0) a n = 0
  | 0, _ => rfl
  | n + 1, a => by rw [rdF, rd_zero n (a + 1)]; rfl
theorem ent_zero (f i : Int) : entE (fun _ => 0) f i = 0 := by
  unfold entE
  rw [rd_zero]
  cases entO f i <;> rfl
/-- A page, held. -/
def pgI (p : Int) : Int := mx 0 (mn p 255)
theorem pg_bd (p : Int) : 0 ≤ pgI p ∧ pgI p ≤ 255 := by
  unfold pgI mx mn
  split <;> split <;> omega
/-- Whether both frames are memory's. -/
def layO (root low : Int) : Bool := decide (0 ≤ root ∧ root < 128 ∧ 0 ≤ low ∧ low < 128)
/-- Memory behind a page laid. -/
def layT (B : Nat → Int) (root low page e : Int) : Nat → Int :=
  bif layO root low then wrZ (wrZ B (low * 256 + 8 * (pgI page % 16)) 8 e) (root * 256 + 8 * (pgI page / 16)) 8 (makI low 1) else B
theorem lay_low {root low page : Int} (h : layO root low = true) : entO low (pgI page % 16) = true := by
  have hh := of_decide_eq_true h
  exact decide_eq_true (by omega)
theorem lay_top {root low page : Int} (h : layO root low = true) : entO root (pgI page / 16) = true := by
  have hh := of_decide_eq_true h
  have := pg_bd page
  exact decide_eq_true (by omega)
theorem ent_lay {B : Nat → Int} {root low page e f i : Int} (h : layO root low = true) (he : U e) : entE (layT B root low page e) f i = if f = root ∧ i = pgI page / 16 then makI low 1 else if f = low ∧ i = pgI page % 16 then e else entE B f i := by
  unfold layT
  rw [h, cond_true, ent_wr (lay_top h) (U_made low 1), ent_wr (lay_low h) he]
end Go.Proofs.YtpplclenokfpeaaDoor
