/-
  Entries of tables, as the document's own calls answer (Make, Frame, Is, Leaf, May of the reference): walked whole, for every argument.
-/
import Derived.Test.YtpplclenokfpeaaDoorPteDoc
namespace Go.Proofs.YtpplclenokfpeaaDoor
open Go.RowKit
def makI (f b : Int) : Int := f % 256 * 256 + b % 256
def frI (e : Int) : Int := e / 256 % 256
def isE (e : Int) : Bool := gb e 0 && ((!gb e 2 || gb e 1) && ((e / 65536 == 0) && !gb e 5))
def leafE (e : Int) : Bool := isE e && (gb e 1 || gb e 3)
/-- Whose page it is. -/
def whoE (b k : Int) (user sum : Bool) : Bool := gb b 6 && bif user then gb b 4 else (!gb b 4 || (sum && !(k == 0)))
/-- What may be done with it. -/
def canE (b k : Int) (mxr : Bool) : Bool := bif k == 0 then gb b 3 else bif k == 1 then gb b 1 || (mxr && gb b 3) else bif k == 2 then gb b 2 && gb b 7 else false
def mayE (b k : Int) (user sum mxr : Bool) : Bool := whoE b k user sum && canE b k mxr
theorem or_8 {a b : Int} (h0 : 0 ≤ a) (h1 : a < 36028797018963968) (h2 : 0 ≤ b) (h3 : b < 256) : bits .or .u64 (a * 256) b = a * 256 + b := by
  obtain ⟨A, rfl⟩ := Int.eq_ofNat_of_zero_le h0
  obtain ⟨B, rfl⟩ := Int.eq_ofNat_of_zero_le h2
  have e1 : ((A : Int) * 256) = ((2 ^ 8 * A : Nat) : Int) := by omega
  rw [e1, bits_or, BitVec.toNat_or, BitVec.ofInt_natCast, BitVec.ofInt_natCast, BitVec.toNat_ofNat, BitVec.toNat_ofNat, Nat.mod_eq_of_lt (by omega), Nat.mod_eq_of_lt (by omega), ← Nat.two_pow_add_eq_or_of_lt (by omega)]
  omega
theorem u_two (x : Int) : (bits .and .u64 x 10 != 0) = (gb x 1 || gb x 3) := by
  have h : bits .and .u64 x 10 = ((BitVec.ofInt 64 x &&& 10#64).toNat : Int) := bits_and x 10
  rw [h]
  unfold gb
  generalize BitVec.ofInt 64 x = v
  have e : (v &&& 10#64) = (v &&& 2#64) ||| (v &&& 8#64) := by
    rw [← BitVec.and_or_distrib_left]
    rfl
  have e1 : v &&& 2#64 = if v.getLsbD 1 then 2#64 else 0#64 := BitVec.and_twoPow v 1
  have e3 : v &&& 8#64 = if v.getLsbD 3 then 8#64 else 0#64 := BitVec.and_twoPow v 3
  rw [e, e1, e3]
  cases v.getLsbD 1 <;> cases v.getLsbD 3 <;> rfl
set_option maxHeartbeats 1000000 in
theorem rmake_any (f b : Int) (w : World) :
    Calls Tryd.prog 22 #[.int .i64 f, .int .i64 b] w fun e w' => e = .returned (.int .u64 (makI f b)) ∧ w' = w := by
  have e1 : bits .and .i64 f 255 = f % 256 := i_low f 8 (by omega) 255 rfl
  have e2 : bits .and .i64 b 255 = b % 256 := i_low b 8 (by omega) 255 rfl
  have l1 : 0 ≤ f % 256 := by omega
  have l2 : f % 256 < 256 := by omega
  have l3 : 0 ≤ b % 256 := by omega
  have l4 : b % 256 < 256 := by omega
  have e3 := or_8 (a := f % 256) (b := b % 256) l1 (by omega) l3 l4
  unfold makI
  generalize f % 256 = x at *
  generalize b % 256 = y at *
  go_enter Tryd.func22, Tryd.ntmps22
  go_wp2
  go_ret
  exact ⟨rfl, rfl⟩
set_option maxHeartbeats 1000000 in
theorem rframe_of (e : Int) (w : World) :
    Calls Tryd.prog 60 #[.int .u64 e] w fun r w' => r = .returned (.int .i64 (frI e)) ∧ w' = w := by
  have e1 : bits .and .u64 (e / 256) 255 = e / 256 % 256 := u_low (e / 256) 8 (by omega) 255 rfl
  have l1 : 0 ≤ e / 256 % 256 := by omega
  have l2 : e / 256 % 256 < 256 := by omega
  unfold frI
  generalize e / 256 % 256 = y at *
  go_enter Tryd.func60, Tryd.ntmps60
  go_wp2
  go_ret
  exact ⟨rfl, rfl⟩
set_option maxHeartbeats 1000000 in
theorem ris_of (e : Int) (w : World) :
    Calls Tryd.prog 58 #[.int .u64 e] w fun r w' => r = .returned (.bool (isE e)) ∧ w' = w := by
  have h0 := u_one e
  have h4 := u_no e 2 (by omega) 4 rfl
  have h2 := u_is e 1 (by omega) 2 rfl
  have h5 := u_no e 5 (by omega) 32 rfl
  unfold isE
  cases c0 : gb e 0 <;> cases c2 : gb e 2 <;> cases c1 : gb e 1 <;> cases c5 : gb e 5 <;> cases c6 : e / 65536 == 0
  all_goals
    rw [c0] at h0
    rw [c2] at h4
    rw [c1] at h2
    rw [c5] at h5
    clear c0 c1 c2 c5
    simp only [Bool.not_true, Bool.not_false] at h4 h5
    go_enter Tryd.func58, Tryd.ntmps58
    go_wp2
    go_ret
    exact ⟨rfl, rfl⟩
set_option maxHeartbeats 1000000 in
theorem rleaf_of (e : Int) (w : World) :
    Calls Tryd.prog 59 #[.int .u64 e] w fun r w' => r = .returned (.bool (leafE e)) ∧ w' = w := by
  have h0 := u_two e
  unfold leafE
  generalize (gb e 1 || gb e 3) = b at *
  cases hi : isE e <;> cases b
  all_goals
    go_enter Tryd.func59, Tryd.ntmps59
    go_wp2_with fail
    refine (ris_of e _).mono ?_
    rintro r w' ⟨rfl, rfl⟩
    rw [hi]
    go_wp2
    go_ret
    exact ⟨rfl, rfl⟩
end Go.Proofs.YtpplclenokfpeaaDoor
