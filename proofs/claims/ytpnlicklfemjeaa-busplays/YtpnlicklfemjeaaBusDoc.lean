/-
  A bus, as the document tells it: its time and alarm, its four ports, its memory; what is read, written, typed. Plain facts: no call of the program is walked here.
-/
import Derived.Test.YtpnlicklfemjeaaBusBase
namespace Go.Proofs.Ytpnlicklfemjeaa
open Go.RowKit
structure BusM where
  t : Int
  a : Int
  P : Nat → Prt
  B : Nat → Int
structure BusM.Ok (M : BusM) : Prop where
  t : U M.t
  a : U M.a
  P : ∀ k, (M.P k).Ok
def upd (P : Nat → Prt) (k : Nat) (x : Prt) : Nat → Prt := fun j => if j = k then x else P j
theorem upd_same (P : Nat → Prt) (k : Nat) (x : Prt) : upd P k x k = x := if_pos rfl
theorem upd_other (P : Nat → Prt) {k j : Nat} (x : Prt) (h : j ≠ k) : upd P k x j = P j := if_neg h
def BusM.new (B : Nat → Int) : BusM := ⟨0, 18446744073709551615, fun _ => .new, B⟩
theorem BusM.Ok.new (B : Nat → Int) : (BusM.new B).Ok := ⟨show U 0 by unfold U; omega, show U 18446744073709551615 by unfold U; omega, fun _ => .new⟩
theorem BusM.Ok.port {M : BusM} (h : M.Ok) {k : Nat} {x : Prt} (hx : x.Ok) : (BusM.mk M.t M.a (upd M.P k x) M.B).Ok := ⟨h.t, h.a, fun j => by show (upd M.P k x j).Ok; unfold upd; split; exact hx; exact h.P j⟩
/-- Whether a place is a device's. -/
def devB (a : Int) : Bool := decide (61440 ≤ a ∧ a < 62720)
/-- The port at a place, or -1. -/
def prtI (a : Int) : Int := if a < 61696 ∨ ¬ (a - 61696) % 256 = 0 ∨ 4 ≤ (a - 61696) / 256 then -1 else (a - 61696) / 256
theorem prt_yes {a : Int} (h : 0 ≤ prtI a) : ∃ k : Nat, k < 4 ∧ prtI a = k ∧ a = 61696 + 256 * k := by
  unfold prtI at h ⊢
  split at h
  · omega
  · rename_i hn
    refine ⟨((a - 61696) / 256).toNat, by omega, ?_, by omega⟩
    rw [if_neg hn]; omega
theorem prt_at (k : Nat) (h : k < 4) : prtI (61696 + 256 * (k : Int)) = k := by unfold prtI; rw [if_neg (by omega)]; omega
theorem prt_no {a : Int} (h : ¬ 0 ≤ prtI a) : prtI a = -1 ∧ (a < 61696 ∨ ¬ (a - 61696) % 256 = 0 ∨ 4 ≤ (a - 61696) / 256) := by
  unfold prtI at h ⊢
  split
  · rename_i hn; exact ⟨rfl, hn⟩
  · rename_i hn; rw [if_neg hn] at h; omega
theorem code_far {a n : Int} (h : 32768 ≤ a) : ¬ codeI a n = 0 := fun e => by have := (code_zero e).2; omega
/-- What a read tells, whether it tells, what is left of the bus. -/
def rdV (M : BusM) (a n : Int) : Int := if codeI a n = 0 then rdZ M.B a n else if a = 61440 ∧ n = 8 then M.t else if a = 61448 ∧ n = 8 then M.a else if 0 ≤ prtI a ∧ n = 1 then (M.P (prtI a).toNat).first else 0
def rdB (a n : Int) : Bool := decide (codeI a n = 0 ∨ (a = 61440 ∧ n = 8) ∨ (a = 61448 ∧ n = 8) ∨ (0 ≤ prtI a ∧ n = 1))
def rdN (M : BusM) (a n : Int) : BusM := if 0 ≤ prtI a ∧ n = 1 then ⟨M.t, M.a, upd M.P (prtI a).toNat (M.P (prtI a).toNat).take, M.B⟩ else M
/-- A number's lowest byte. -/
def u8 (v : Int) : UInt8 := UInt8.ofNat (v % 256).toNat
theorem u8_val (v : Int) : ((u8 v).toNat : Int) = v % 256 := byte_back (v % 256) (by omega)
/-- Whether a write is done, what is left of the bus. -/
def wrB (a n : Int) : Bool := decide (codeI a n = 0 ∨ (a = 61448 ∧ n = 8) ∨ (0 ≤ prtI a ∧ n = 1))
def wrN (M : BusM) (a n v : Int) : BusM := if codeI a n = 0 then ⟨M.t, M.a, M.P, wrZ M.B a n v⟩ else if a = 61448 ∧ n = 8 then ⟨M.t, v, M.P, M.B⟩ else if 0 ≤ prtI a ∧ n = 1 then ⟨M.t, M.a, upd M.P (prtI a).toNat ((M.P (prtI a).toNat).put (u8 v)), M.B⟩ else M
def typN (M : BusM) (i : Int) (s : List UInt8) : BusM := if 0 ≤ i ∧ i < 4 then ⟨M.t, M.a, upd M.P i.toNat ((M.P i.toNat).type s), M.B⟩ else M
def outS (M : BusM) (i : Int) : ByteArray := if 0 ≤ i ∧ i < 4 then bs (M.P i.toNat).out else bs []
def timB (M : BusM) : Bool := decide (M.a ≤ M.t)
theorem BusM.Ok.read {M : BusM} (h : M.Ok) (a n : Int) : (rdN M a n).Ok := by
  unfold rdN; split
  · exact h.port (h.P _).take
  · exact h
theorem BusM.Ok.write {M : BusM} (h : M.Ok) (a n v : Int) (hv : U v) : (wrN M a n v).Ok := by
  unfold wrN; split
  · exact ⟨h.t, h.a, h.P⟩
  · split
    · exact ⟨h.t, hv, h.P⟩
    · split
      · exact h.port ((h.P _).put _)
      · exact h
theorem BusM.Ok.typed {M : BusM} (h : M.Ok) (i : Int) (s : List UInt8) : (typN M i s).Ok := by
  unfold typN; split
  · exact h.port ((h.P _).type s)
  · exact h
theorem rdZ_no {B : Nat → Int} {a n : Int} (h : ¬ codeI a n = 0) : rdZ B a n = 0 := by unfold rdZ; rw [if_neg h]
end Go.Proofs.Ytpnlicklfemjeaa
