/-
  What the document's Digits answers: walked, for every number with at most twenty digits.
-/
import Derived.Test.YtpfblbleendpiaaDoorBase
namespace Go.Proofs.YtpfblbleendpiaaDoor
open Go.RowKit
/-- The digits of a number, the greatest first (f: more than it has). -/
def dgF : Nat → Nat → List UInt8
  | 0, _ => []
  | f + 1, n => if n < 10 then [UInt8.ofNat (48 + n)] else dgF f (n / 10) ++ [UInt8.ofNat (48 + n % 10)]
def dgI (n : Int) : List UInt8 := if n < 0 then 45 :: dgF 20 (-n).toNat else dgF 20 n.toNat
def bs (l : List UInt8) : ByteArray := ⟨l.toArray⟩
theorem bs_app (a b : List UInt8) : bs a ++ bs b = bs (a ++ b) := by
  apply ByteArray.ext
  simp [bs]
theorem dgF_small {f n : Nat} (hf : 0 < f) (hn : n < 10) : dgF f n = [UInt8.ofNat (48 + n)] := by
  obtain ⟨g, rfl⟩ : ∃ g, f = g + 1 := ⟨f - 1, by omega⟩
  rw [dgF, if_pos hn]
theorem dgF_step {f n : Nat} (hn : ¬ n < 10) : dgF (f + 1) n = dgF f (n / 10) ++ [UInt8.ofNat (48 + n % 10)] := by
  rw [dgF, if_neg hn]
theorem dig_of {m : Nat} : (48 + (m : Int) % 10).toNat = 48 + m % 10 := by omega
/-- l: the digits of n behind those of m. -/
def dgRel (n m : Nat) (l : ByteArray) : Prop := ∃ (f : Nat) (t : List UInt8), l = bs t ∧ dgF 20 n = dgF (f + 1) m ++ t ∧ m < 10 ^ (f + 1) ∧ t.length + f = 19
theorem dgRel.last {n m : Nat} {l c : ByteArray} (h : dgRel n m l) (hm : m < 10) (hc : c = bs [UInt8.ofNat (48 + m % 10)]) : c ++ l = bs (dgF 20 n) := by
  obtain ⟨f, t, rfl, he, _, _⟩ := h
  rw [hc, bs_app, he, dgF_small (by omega) hm, Nat.mod_eq_of_lt hm]
theorem dgRel.next {n m : Nat} {l c : ByteArray} (h : dgRel n m l) (hm : ¬ m < 10) (hc : c = bs [UInt8.ofNat (48 + m % 10)]) : dgRel n (m / 10) (c ++ l) := by
  obtain ⟨f, t, rfl, he, hb, hl⟩ := h
  match f, he, hb, hl with
  | 0, he, hb, _ => exact absurd (by simpa using hb) hm
  | f + 1, he, hb, hl =>
    refine ⟨f, UInt8.ofNat (48 + m % 10) :: t, ?_, ?_, ?_, by simp; omega⟩
    · rw [hc, bs_app]; rfl
    · rw [he, dgF_step hm]; simp
    · rw [Nat.pow_succ] at hb
      omega
def msr (v : Value) : Nat := (intOf v).toNat
def lt63 (m : Nat) : Prop := (m : Int) < 9223372036854775808
theorem dgRel.size {n m : Nat} {l : ByteArray} (h : dgRel n m l) : l.size ≤ 19 := by
  obtain ⟨f, t, rfl, _, _, hl⟩ := h
  show t.toArray.size ≤ 19
  simp
  omega
theorem add_small (P : Program) (a b r : ByteArray) (ha : a.size ≤ 1000) (hb : b.size ≤ 1000) (hr : a ++ b = r) (w : World) : (Op.stringOp .add a b).run P w = .ok (.string r) w := by
  rw [← hr]
  exact run_string_add_sum w a b (by omega)
theorem dgF_len : ∀ (f n : Nat), (dgF f n).length ≤ f
  | 0, n => by simp [dgF]
  | f + 1, n => by
    unfold dgF
    split
    · simp
    · have := dgF_len f (n / 10)
      simp
      exact this
theorem dgI_len (n : Int) : (dgI n).length ≤ 21 := by
  unfold dgI
  split
  · have := dgF_len 20 (-n).toNat
    simp
    omega
  · have := dgF_len 20 n.toNat
    omega
theorem bs_size (l : List UInt8) : (bs l).size = l.length := by
  show l.toArray.size = _
  simp
theorem add_bs (P : Program) (a b : List UInt8) (h : a.length + b.length ≤ 1000) (w : World) : (Op.stringOp .add (bs a) (bs b)).run P w = .ok (.string (bs (a ++ b))) w := by
  rw [← bs_app]
  exact run_string_add_sum w _ _ (by rw [bs_size, bs_size]; omega)
end Go.Proofs.YtpfblbleendpiaaDoor
