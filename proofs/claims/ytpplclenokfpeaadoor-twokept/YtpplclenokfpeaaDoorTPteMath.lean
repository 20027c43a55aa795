/-
  What package pte's own reckoning comes to, in the document's words. Plain facts: no call of the program is walked here.
-/
import Derived.Test.YtpplclenokfpeaaDoorBase
import Derived.Test.YtpplclenokfpeaaDoorBits
namespace Go.Proofs.YtpplclenokfpeaaDoor
open Go.RowKit
/-- The digits of a number, the greatest first (f: more than it has). -/
def dgF : Nat → Nat → List UInt8
  | 0, _ => []
  | f + 1, n => if n < 10 then [UInt8.ofNat (48 + n)] else dgF f (n / 10) ++ [UInt8.ofNat (48 + n % 10)]
def dgI (n : Int) : List UInt8 := if n < 0 then 45 :: dgF 20 (-n).toNat else dgF 20 n.toNat
def bs (l : List UInt8) : ByteArray := ⟨l.toArray⟩
theorem bs_app (a b : List UInt8) : bs a ++ bs b = bs (a ++ b) := by
  apply ByteArray.ext
  simp [bs]
theorem dgF_small {f n : Nat} (hf : 0 < f) (hn : n < 10) : dgF f n = [UInt8.ofNat (48 + n)] := by
  obtain ⟨g, rfl⟩ : ∃ g, f = g + 1 := ⟨f - 1, by omega⟩
  rw [dgF, if_pos hn]
theorem dgF_step {f n : Nat} (hn : ¬ n < 10) : dgF (f + 1) n = dgF f (n / 10) ++ [UInt8.ofNat (48 + n % 10)] := by
  rw [dgF, if_neg hn]
theorem conv1 (w : World) (d : Int) :
    (convert 56 9 (.slice (some ⟨w.heap.size, 0, none⟩) 1 1)).run Tryd.prog (w.alloc (.cells #[.int .u8 d] 5)) = .ok (.string (bs [UInt8.ofNat d.toNat])) (w.alloc (.cells #[.int .u8 d] 5)) := by
  have hr := run_loadCells_list (P := Tryd.prog) (w.alloc (.cells #[.int .u8 d] 5)) ⟨w.heap.size, 0, none⟩ [.int .u8 d] (fun j v hv => by
    match j, hv with
    | 0, hv => simp at hv; subst hv; simp [Addr.add])
  rw [run_convert_bytes_string _ 56 9 5 _ _ _ (by kernel_rfl) (by kernel_rfl) (by kernel_rfl)]
  exact run_bytesToString _ ⟨w.heap.size, 0, none⟩ 1 1 [d] hr
theorem dig_of {m : Nat} : (48 + (m : Int) % 10).toNat = 48 + m % 10 := by omega
/-- l: the digits of n behind those of m. -/
def dgRel (n m : Nat) (l : ByteArray) : Prop := ∃ (f : Nat) (t : List UInt8), l = bs t ∧ dgF 20 n = dgF (f + 1) m ++ t ∧ m < 10 ^ (f + 1) ∧ t.length + f = 19
theorem dgRel.last {n m : Nat} {l c : ByteArray} (h : dgRel n m l) (hm : m < 10) (hc : c = bs [UInt8.ofNat (48 + m % 10)]) : c ++ l = bs (dgF 20 n) := by
  obtain ⟨f, t, rfl, he, _, _⟩ := h
  rw [hc, bs_app, he, dgF_small (by omega) hm, Nat.mod_eq_of_lt hm]
theorem dgRel.next {n m : Nat} {l c : ByteArray} (h : dgRel n m l) (hm : ¬ m < 10) (hc : c = bs [UInt8.ofNat (48 + m % 10)]) : dgRel n (m / 10) (c ++ l) := by
  obtain ⟨f, t, rfl, he, hb, hl⟩ := h
  match f, he, hb, hl with
  | 0, he, hb, _ => exact absurd (by simpa using hb) hm
  | f + 1, he, hb, hl =>
    refine ⟨f, UInt8.ofNat (48 + m % 10) :: t, ?_, ?_, ?_, by simp; omega⟩
    · rw [hc, bs_app]; rfl
    · rw [he, dgF_step hm]; simp
    · rw [Nat.pow_succ] at hb
      omega
def msr (v : Value) : Nat := (intOf v).toNat
def lt63 (m : Nat) : Prop := (m : Int) < 9223372036854775808
theorem dgRel.size {n m : Nat} {l : ByteArray} (h : dgRel n m l) : l.size ≤ 19 := by
  obtain ⟨f, t, rfl, _, _, hl⟩ := h
  show t.toArray.size ≤ 19
  simp
  omega
theorem add_small (P : Program) (a b r : ByteArray) (ha : a.size ≤ 1000) (hb : b.size ≤ 1000) (hr : a ++ b = r) (w : World) : (Op.stringOp .add a b).run P w = .ok (.string r) w := by
  rw [← hr]
  exact run_string_add_sum w a b (by omega)
theorem dgF_len : ∀ (f n : Nat), (dgF f n).length ≤ f
  | 0, n => by simp [dgF]
  | f + 1, n => by
    unfold dgF
    split
    · simp
    · have := dgF_len f (n / 10)
      simp
      exact this
theorem dgI_len (n : Int) : (dgI n).length ≤ 21 := by
  unfold dgI
  split
  · have := dgF_len 20 (-n).toNat
    simp
    omega
  · have := dgF_len 20 n.toNat
    omega
theorem bs_size (l : List UInt8) : (bs l).size = l.length := by
  show l.toArray.size = _
  simp
theorem add_bs (P : Program) (a b : List UInt8) (h : a.length + b.length ≤ 1000) (w : World) : (Op.stringOp .add (bs a) (bs b)).run P w = .ok (.string (bs (a ++ b))) w := by
  rw [← bs_app]
  exact run_string_add_sum w _ _ (by rw [bs_size, bs_size]; omega)
end Go.Proofs.YtpplclenokfpeaaDoor
namespace Go.Proofs.YtpplclenokfpeaaDoor
open Go.RowKit
/-- A bit of a number, of either kind. -/
def gb (x : Int) (i : Nat) : Bool := (BitVec.ofInt 64 x).getLsbD i
theorem two_pow (i : Nat) : BitVec.ofInt 64 ((2 ^ i : Nat) : Int) = BitVec.twoPow 64 i := by
  apply BitVec.eq_of_toNat_eq
  rw [BitVec.toNat_twoPow, BitVec.toNat_ofInt]
  omega
theorem one_bit (x : Int) (i : Nat) : (BitVec.ofInt 64 x &&& BitVec.ofInt 64 ((2 ^ i : Nat) : Int)).toNat = if gb x i then 2 ^ i % 2 ^ 64 else 0 := by
  rw [two_pow, BitVec.and_twoPow]
  unfold gb
  split
  · rw [BitVec.toNat_twoPow]
  · rfl
theorem pow_lt (i : Nat) (hi : i < 63) : 0 < 2 ^ i ∧ 2 ^ i < 2 ^ 63 := ⟨Nat.pow_pos (by decide), Nat.pow_lt_pow_right (by decide) hi⟩
theorem u_and_bit (x : Int) (i : Nat) (hi : i < 63) (m : Int) (hm : m = ((2 ^ i : Nat) : Int)) : bits .and .u64 x m = if gb x i then m else 0 := by
  subst hm
  obtain ⟨p0, p1⟩ := pow_lt i hi
  rw [bits_and, one_bit]
  cases gb x i
  · rfl
  · simp only [if_true]
    omega
theorem i_and (x y : Int) : bits .and .i64 x y = IntKind.i64.wrap ((BitVec.ofInt 64 x &&& BitVec.ofInt 64 y).toNat : Int) := rfl
theorem i_and_bit (x : Int) (i : Nat) (hi : i < 63) (m : Int) (hm : m = ((2 ^ i : Nat) : Int)) : bits .and .i64 x m = if gb x i then m else 0 := by
  subst hm
  obtain ⟨p0, p1⟩ := pow_lt i hi
  rw [i_and, one_bit]
  generalize 2 ^ i = p at p0 p1 ⊢
  have e : p % 2 ^ 64 = p := by omega
  rw [e]
  cases gb x i
  · rfl
  · show IntKind.i64.wrap (p : Int) = p
    rw [IntKind.wrap_i64]
    omega
/-- Tests of one bit, as the program asks them. -/
theorem u_no (x : Int) (i : Nat) (hi : i < 63) (m : Int) (hm : m = ((2 ^ i : Nat) : Int)) : (bits .and .u64 x m == 0) = !gb x i := by
  rw [u_and_bit x i hi m hm]
  obtain ⟨p0, p1⟩ := pow_lt i hi
  cases gb x i
  · rfl
  · exact beq_eq_false_iff_ne.2 (show m ≠ 0 by omega)
theorem u_is (x : Int) (i : Nat) (hi : i < 63) (m : Int) (hm : m = ((2 ^ i : Nat) : Int)) : (bits .and .u64 x m != 0) = gb x i := by
  rw [bne, u_no x i hi m hm, Bool.not_not]
theorem i_no (x : Int) (i : Nat) (hi : i < 63) (m : Int) (hm : m = ((2 ^ i : Nat) : Int)) : (bits .and .i64 x m == 0) = !gb x i := by
  rw [i_and_bit x i hi m hm]
  obtain ⟨p0, p1⟩ := pow_lt i hi
  cases gb x i
  · rfl
  · exact beq_eq_false_iff_ne.2 (show m ≠ 0 by omega)
theorem i_is (x : Int) (i : Nat) (hi : i < 63) (m : Int) (hm : m = ((2 ^ i : Nat) : Int)) : (bits .and .i64 x m != 0) = gb x i := by
  rw [bne, i_no x i hi m hm, Bool.not_not]
theorem u_one (x : Int) : (bits .and .u64 x 1 == 1) = gb x 0 := by
  rw [u_and_bit x 0 (by omega) 1 rfl]
  cases gb x 0 <;> rfl
/-- The lowest bits of a number. -/
theorem low_mask (x : Int) (n : Nat) (hn : n < 63) : (BitVec.ofInt 64 x &&& BitVec.ofInt 64 ((2 ^ n - 1 : Nat) : Int)).toNat = (x % ((2 ^ n : Nat) : Int)).toNat := by
  obtain ⟨p0, p1⟩ := pow_lt n hn
  rw [BitVec.toNat_and, BitVec.toNat_ofInt, BitVec.toNat_ofInt]
  have e : (((2 ^ n - 1 : Nat) : Int) % ((2 ^ 64 : Nat) : Int)).toNat = 2 ^ n - 1 := by omega
  rw [e, Nat.and_two_pow_sub_one_eq_mod]
  obtain ⟨y, hy⟩ : ∃ y : Nat, (x % ((2 ^ 64 : Nat) : Int)) = (y : Int) := ⟨(x % ((2 ^ 64 : Nat) : Int)).toNat, by omega⟩
  rw [hy, Int.toNat_natCast]
  have hd : ((2 ^ n : Nat) : Int) ∣ ((2 ^ 64 : Nat) : Int) := by exact_mod_cast Nat.pow_dvd_pow 2 (by omega : n ≤ 64)
  have h2 : x % ((2 ^ n : Nat) : Int) = (y : Int) % ((2 ^ n : Nat) : Int) := by rw [← hy, Int.emod_emod_of_dvd _ hd]
  rw [h2]
  exact_mod_cast rfl
theorem u_low (x : Int) (n : Nat) (hn : n < 63) (m : Int) (hm : m = ((2 ^ n - 1 : Nat) : Int)) : bits .and .u64 x m = x % ((2 ^ n : Nat) : Int) := by
  subst hm
  obtain ⟨p0, p1⟩ := pow_lt n hn
  rw [bits_and, low_mask x n hn]
  have := Int.emod_nonneg x (show ((2 ^ n : Nat) : Int) ≠ 0 by omega)
  omega
theorem i_low (x : Int) (n : Nat) (hn : n < 63) (m : Int) (hm : m = ((2 ^ n - 1 : Nat) : Int)) : bits .and .i64 x m = x % ((2 ^ n : Nat) : Int) := by
  subst hm
  obtain ⟨p0, p1⟩ := pow_lt n hn
  rw [i_and, low_mask x n hn, IntKind.wrap_i64]
  have h0 := Int.emod_nonneg x (show ((2 ^ n : Nat) : Int) ≠ 0 by omega)
  have h1 := Int.emod_lt_of_pos x (show (0 : Int) < ((2 ^ n : Nat) : Int) by omega)
  omega
end Go.Proofs.YtpplclenokfpeaaDoor
namespace Go.Proofs.YtpplclenokfpeaaDoor
open Go.RowKit
def makI (f b : Int) : Int := f % 256 * 256 + b % 256
def frI (e : Int) : Int := e / 256 % 256
def isE (e : Int) : Bool := gb e 0 && ((!gb e 2 || gb e 1) && ((e / 65536 == 0) && !gb e 5))
def leafE (e : Int) : Bool := isE e && (gb e 1 || gb e 3)
/-- Whose page it is. -/
def whoE (b k : Int) (user sum : Bool) : Bool := gb b 6 && bif user then gb b 4 else (!gb b 4 || (sum && !(k == 0)))
/-- What may be done with it. -/
def canE (b k : Int) (mxr : Bool) : Bool := bif k == 0 then gb b 3 else bif k == 1 then gb b 1 || (mxr && gb b 3) else bif k == 2 then gb b 2 && gb b 7 else false
def mayE (b k : Int) (user sum mxr : Bool) : Bool := whoE b k user sum && canE b k mxr
theorem or_8 {a b : Int} (h0 : 0 ≤ a) (h1 : a < 36028797018963968) (h2 : 0 ≤ b) (h3 : b < 256) : bits .or .u64 (a * 256) b = a * 256 + b := by
  obtain ⟨A, rfl⟩ := Int.eq_ofNat_of_zero_le h0
  obtain ⟨B, rfl⟩ := Int.eq_ofNat_of_zero_le h2
  have e1 : ((A : Int) * 256) = ((2 ^ 8 * A : Nat) : Int) := by omega
  rw [e1, bits_or, BitVec.toNat_or, BitVec.ofInt_natCast, BitVec.ofInt_natCast, BitVec.toNat_ofNat, BitVec.toNat_ofNat, Nat.mod_eq_of_lt (by omega), Nat.mod_eq_of_lt (by omega), ← Nat.two_pow_add_eq_or_of_lt (by omega)]
  omega
theorem u_two (x : Int) : (bits .and .u64 x 10 != 0) = (gb x 1 || gb x 3) := by
  have h : bits .and .u64 x 10 = ((BitVec.ofInt 64 x &&& 10#64).toNat : Int) := bits_and x 10
  rw [h]
  unfold gb
  generalize BitVec.ofInt 64 x = v
  have e : (v &&& 10#64) = (v &&& 2#64) ||| (v &&& 8#64) := by
    rw [← BitVec.and_or_distrib_left]
    rfl
  have e1 : v &&& 2#64 = if v.getLsbD 1 then 2#64 else 0#64 := BitVec.and_twoPow v 1
  have e3 : v &&& 8#64 = if v.getLsbD 3 then 8#64 else 0#64 := BitVec.and_twoPow v 3
  rw [e, e1, e3]
  cases v.getLsbD 1 <;> cases v.getLsbD 3 <;> rfl
set_option maxHeartbeats 1000000 in
theorem rmake_any (f b : Int) (w : World) :
    Calls Tryd.prog 22 #[.int .i64 f, .int .i64 b] w fun e w' => e = .returned (.int .u64 (makI f b)) ∧ w' = w := by
  have e1 : bits .and .i64 f 255 = f % 256 := i_low f 8 (by omega) 255 rfl
  have e2 : bits .and .i64 b 255 = b % 256 := i_low b 8 (by omega) 255 rfl
  have l1 : 0 ≤ f % 256 := by omega
  have l2 : f % 256 < 256 := by omega
  have l3 : 0 ≤ b % 256 := by omega
  have l4 : b % 256 < 256 := by omega
  have e3 := or_8 (a := f % 256) (b := b % 256) l1 (by omega) l3 l4
  unfold makI
  generalize f % 256 = x at *
  generalize b % 256 = y at *
  go_enter Tryd.func22, Tryd.ntmps22
  go_wp2
  go_ret
  exact ⟨rfl, rfl⟩
set_option maxHeartbeats 1000000 in
theorem rframe_of (e : Int) (w : World) :
    Calls Tryd.prog 60 #[.int .u64 e] w fun r w' => r = .returned (.int .i64 (frI e)) ∧ w' = w := by
  have e1 : bits .and .u64 (e / 256) 255 = e / 256 % 256 := u_low (e / 256) 8 (by omega) 255 rfl
  have l1 : 0 ≤ e / 256 % 256 := by omega
  have l2 : e / 256 % 256 < 256 := by omega
  unfold frI
  generalize e / 256 % 256 = y at *
  go_enter Tryd.func60, Tryd.ntmps60
  go_wp2
  go_ret
  exact ⟨rfl, rfl⟩
set_option maxHeartbeats 1000000 in
theorem ris_of (e : Int) (w : World) :
    Calls Tryd.prog 58 #[.int .u64 e] w fun r w' => r = .returned (.bool (isE e)) ∧ w' = w := by
  have h0 := u_one e
  have h4 := u_no e 2 (by omega) 4 rfl
  have h2 := u_is e 1 (by omega) 2 rfl
  have h5 := u_no e 5 (by omega) 32 rfl
  unfold isE
  cases c0 : gb e 0 <;> cases c2 : gb e 2 <;> cases c1 : gb e 1 <;> cases c5 : gb e 5 <;> cases c6 : e / 65536 == 0
  all_goals
    rw [c0] at h0
    rw [c2] at h4
    rw [c1] at h2
    rw [c5] at h5
    clear c0 c1 c2 c5
    simp only [Bool.not_true, Bool.not_false] at h4 h5
    go_enter Tryd.func58, Tryd.ntmps58
    go_wp2
    go_ret
    exact ⟨rfl, rfl⟩
set_option maxHeartbeats 1000000 in
theorem rleaf_of (e : Int) (w : World) :
    Calls Tryd.prog 59 #[.int .u64 e] w fun r w' => r = .returned (.bool (leafE e)) ∧ w' = w := by
  have h0 := u_two e
  unfold leafE
  generalize (gb e 1 || gb e 3) = b at *
  cases hi : isE e <;> cases b
  all_goals
    go_enter Tryd.func59, Tryd.ntmps59
    go_wp2_with fail
    refine (ris_of e _).mono ?_
    rintro r w' ⟨rfl, rfl⟩
    rw [hi]
    go_wp2
    go_ret
    exact ⟨rfl, rfl⟩
end Go.Proofs.YtpplclenokfpeaaDoor
namespace Go.Proofs.YtpplclenokfpeaaDoor
open Go.RowKit
/-- The tests that the program asks of a leaf's bits. -/
structure BitsE (b : Int) : Prop where
  n6 : (bits .and .i64 b 64 == 0) = !gb b 6
  n4 : (bits .and .i64 b 16 == 0) = !gb b 4
  i4 : (bits .and .i64 b 16 != 0) = gb b 4
  i3 : (bits .and .i64 b 8 != 0) = gb b 3
  i1 : (bits .and .i64 b 2 != 0) = gb b 1
  i2 : (bits .and .i64 b 4 != 0) = gb b 2
  i7 : (bits .and .i64 b 128 != 0) = gb b 7
theorem bitsE (b : Int) : BitsE b := ⟨i_no b 6 (by omega) 64 rfl, i_no b 4 (by omega) 16 rfl, i_is b 4 (by omega) 16 rfl, i_is b 3 (by omega) 8 rfl, i_is b 1 (by omega) 2 rfl, i_is b 2 (by omega) 4 rfl, i_is b 7 (by omega) 128 rfl⟩
theorem who_no {b k : Int} {user sum : Bool} (h : whoE b k user sum = false) : gb b 6 = false ∨ (gb b 6 = true ∧ user = true ∧ gb b 4 = false) ∨ (gb b 6 = true ∧ user = false ∧ gb b 4 = true ∧ sum = false) ∨ (gb b 6 = true ∧ user = false ∧ gb b 4 = true ∧ sum = true ∧ (k == 0) = true) := by
  unfold whoE at h
  revert h
  cases gb b 6 <;> cases gb b 4 <;> cases user <;> cases sum <;> cases (k == 0) <;> simp
theorem who_yes {b k : Int} {user sum : Bool} (h : whoE b k user sum = true) : gb b 6 = true ∧ ((user = true ∧ gb b 4 = true) ∨ (user = false ∧ gb b 4 = false) ∨ (user = false ∧ gb b 4 = true ∧ sum = true ∧ (k == 0) = false)) := by
  unfold whoE at h
  revert h
  cases gb b 6 <;> cases gb b 4 <;> cases user <;> cases sum <;> cases (k == 0) <;> simp
set_option maxHeartbeats 1000000 in
theorem rmay_no (b k : Int) (user sum mxr : Bool) (h : whoE b k user sum = false) (w : World) :
    Calls Tryd.prog 45 #[.int .i64 b, .int .i64 k, .bool user, .bool sum, .bool mxr] w fun r w' => r = .returned (.bool false) ∧ w' = w := by
  obtain ⟨n6, n4, i4, i3, i1, i2, i7⟩ := bitsE b
  clear i3 i1 i2 i7
  rcases who_no h with e | ⟨e, rfl, f⟩ | ⟨e, rfl, f, rfl⟩ | ⟨e, rfl, f, rfl, g⟩
  · rw [e] at n6
    clear n4 i4 h e
    simp only [Bool.not_false] at n6
    go_enter Tryd.func45, Tryd.ntmps45
    go_wp2
    go_ret
    exact ⟨rfl, rfl⟩
  all_goals
    rw [e] at n6
    rw [f] at n4 i4
    clear h e f
    simp only [Bool.not_false, Bool.not_true] at n6 n4
    go_enter Tryd.func45, Tryd.ntmps45
    go_wp2
    go_ret
    exact ⟨rfl, rfl⟩
set_option maxHeartbeats 1000000 in
theorem rmay_yes (b k : Int) (user sum mxr : Bool) (h : whoE b k user sum = true) (w : World) :
    Calls Tryd.prog 45 #[.int .i64 b, .int .i64 k, .bool user, .bool sum, .bool mxr] w fun r w' => r = .returned (.bool (canE b k mxr)) ∧ w' = w := by
  obtain ⟨n6, n4, i4, i3, i1, i2, i7⟩ := bitsE b
  obtain ⟨e, h⟩ := who_yes h
  rw [e] at n6
  simp only [Bool.not_true] at n6
  clear e
  unfold canE
  by_cases k0 : k = 0
  · subst k0
    clear i1 i2 i7
    rcases h with ⟨rfl, f⟩ | ⟨rfl, f⟩ | ⟨_, _, _, g⟩
    · rw [f] at n4 i4
      clear f
      simp only [Bool.not_true] at n4
      cases c3 : gb b 3
      all_goals
        rw [c3] at i3
        clear c3
        go_enter Tryd.func45, Tryd.ntmps45
        go_wp2
        go_ret
        exact ⟨rfl, rfl⟩
    · rw [f] at n4 i4
      clear f
      simp only [Bool.not_false] at n4
      cases c3 : gb b 3
      all_goals
        rw [c3] at i3
        clear c3
        go_enter Tryd.func45, Tryd.ntmps45
        go_wp2
        go_ret
        exact ⟨rfl, rfl⟩
    · cases g
  · have d0 : (k == 0) = false := beq_eq_false_iff_ne.2 k0
    rw [d0]
    by_cases k1 : k = 1
    · subst k1
      clear i2 i7 k0
      rcases h with ⟨rfl, f⟩ | ⟨rfl, f⟩ | ⟨rfl, f, rfl, g⟩
      all_goals
        rw [f] at n4 i4
        clear f
        simp only [Bool.not_true, Bool.not_false] at n4
        cases c1 : gb b 1 <;> cases c3 : gb b 3 <;> cases mxr
        all_goals
          rw [c3] at i3
          rw [c1] at i1
          clear c1 c3
          go_enter Tryd.func45, Tryd.ntmps45
          go_wp2
          go_ret
          exact ⟨rfl, rfl⟩
    · have d1 : (k == 1) = false := beq_eq_false_iff_ne.2 k1
      rw [d1]
      by_cases k2 : k = 2
      · subst k2
        clear i1 i3 k0 k1
        rcases h with ⟨rfl, f⟩ | ⟨rfl, f⟩ | ⟨rfl, f, rfl, g⟩
        all_goals
          rw [f] at n4 i4
          clear f
          simp only [Bool.not_true, Bool.not_false] at n4
          cases c2 : gb b 2 <;> cases c7 : gb b 7
          all_goals
            rw [c2] at i2
            rw [c7] at i7
            clear c2 c7
            go_enter Tryd.func45, Tryd.ntmps45
            go_wp2
            go_ret
            exact ⟨rfl, rfl⟩
      · have d2 : (k == 2) = false := beq_eq_false_iff_ne.2 k2
        rw [d2]
        clear i1 i3 i2 i7 k0 k1 k2
        rcases h with ⟨rfl, f⟩ | ⟨rfl, f⟩ | ⟨rfl, f, rfl, g⟩
        all_goals
          rw [f] at n4 i4
          clear f
          simp only [Bool.not_true, Bool.not_false] at n4
          go_enter Tryd.func45, Tryd.ntmps45
          go_wp2
          go_ret
          exact ⟨rfl, rfl⟩
theorem rmay_of (b k : Int) (user sum mxr : Bool) (w : World) :
    Calls Tryd.prog 45 #[.int .i64 b, .int .i64 k, .bool user, .bool sum, .bool mxr] w fun r w' => r = .returned (.bool (mayE b k user sum mxr)) ∧ w' = w := by
  unfold mayE
  cases h : whoE b k user sum
  · exact rmay_no b k user sum mxr h w
  · exact rmay_yes b k user sum mxr h w
end Go.Proofs.YtpplclenokfpeaaDoor
namespace Go.Proofs.YtpplclenokfpeaaDoor
open Go.RowKit
theorem ofInt_wrap (n : Int) : BitVec.ofInt 64 (IntKind.i64.wrap n) = BitVec.ofInt 64 n := by
  apply BitVec.eq_of_toNat_eq
  rw [BitVec.toNat_ofInt, BitVec.toNat_ofInt, IntKind.wrap_i64]
  omega
theorem gb_wrap (v : BitVec 64) (i : Nat) : gb (IntKind.i64.wrap (v.toNat : Int)) i = v.getLsbD i := by
  unfold gb
  rw [ofInt_wrap, BitVec.ofInt_natCast, BitVec.ofNat_toNat, BitVec.setWidth_eq]
theorem gb_andNot (x y : Int) (i : Nat) (hi : i < 64) : gb (bits .andNot .i64 x y) i = (gb x i && !gb y i) := by
  have h : bits .andNot .i64 x y = IntKind.i64.wrap ((BitVec.ofInt 64 x &&& ~~~BitVec.ofInt 64 y).toNat : Int) := rfl
  rw [h, gb_wrap]
  unfold gb
  rw [BitVec.getLsbD_and, BitVec.getLsbD_not, decide_eq_true hi, Bool.true_and]
theorem gb_or (x y : Int) (i : Nat) : gb (bits .or .i64 x y) i = (gb x i || gb y i) := by
  have h : bits .or .i64 x y = IntKind.i64.wrap ((BitVec.ofInt 64 x ||| BitVec.ofInt 64 y).toNat : Int) := rfl
  rw [h, gb_wrap]
  unfold gb
  rw [BitVec.getLsbD_or]
theorem i_two (x : Int) : (bits .and .i64 x 10 != 0) = (gb x 1 || gb x 3) := by
  have h : bits .and .i64 x 10 = IntKind.i64.wrap ((BitVec.ofInt 64 x &&& 10#64).toNat : Int) := rfl
  rw [h]
  unfold gb
  generalize BitVec.ofInt 64 x = v
  have e : (v &&& 10#64) = (v &&& 2#64) ||| (v &&& 8#64) := by
    rw [← BitVec.and_or_distrib_left]
    rfl
  have e1 : v &&& 2#64 = if v.getLsbD 1 then 2#64 else 0#64 := BitVec.and_twoPow v 1
  have e3 : v &&& 8#64 = if v.getLsbD 3 then 8#64 else 0#64 := BitVec.and_twoPow v 3
  rw [e, e1, e3]
  cases v.getLsbD 1 <;> cases v.getLsbD 3 <;> rfl
/-- Fewer bits, the user's as it was. -/
def lessI (b off : Int) : Int := bits .andNot .i64 b (bits .andNot .i64 off 16)
theorem less_bit (b off : Int) (i : Nat) (hi : i < 64) (h : gb (lessI b off) i = true) : gb b i = true := by
  unfold lessI at h
  rw [gb_andNot _ _ _ hi] at h
  exact (Bool.and_eq_true _ _ ▸ h).1
theorem less_user (b off : Int) : gb (lessI b off) 4 = gb b 4 := by
  unfold lessI
  rw [gb_andNot _ _ _ (by omega), gb_andNot _ _ _ (by omega), show gb 16 4 = true from by decide]
  simp
theorem who_mono {b c k : Int} {user sum : Bool} (h6 : gb c 6 = true → gb b 6 = true) (h4 : gb c 4 = gb b 4) (h : whoE c k user sum = true) : whoE b k user sum = true := by
  unfold whoE at h ⊢
  rw [h4] at h
  rw [Bool.and_eq_true] at h ⊢
  exact ⟨h6 h.1, h.2⟩
theorem can_mono {b c k : Int} {mxr : Bool} (h3 : gb c 3 = true → gb b 3 = true) (h1 : gb c 1 = true → gb b 1 = true) (h2 : gb c 2 = true → gb b 2 = true) (h7 : gb c 7 = true → gb b 7 = true) (h : canE c k mxr = true) : canE b k mxr = true := by
  unfold canE at h ⊢
  revert h
  cases k == 0
  · cases k == 1
    · cases k == 2
      · exact fun h => h
      · intro h
        simp only [cond_false, cond_true, Bool.and_eq_true] at h ⊢
        exact ⟨h2 h.1, h7 h.2⟩
    · intro h
      simp only [cond_false, cond_true, Bool.or_eq_true, Bool.and_eq_true] at h ⊢
      exact h.imp h1 (fun x => ⟨x.1, h3 x.2⟩)
  · exact fun h => h3 h
theorem may_less (b off k : Int) (user sum mxr : Bool) (h : mayE (lessI b off) k user sum mxr = true) : mayE b k user sum mxr = true := by
  unfold mayE at h ⊢
  rw [Bool.and_eq_true] at h ⊢
  exact ⟨who_mono (less_bit b off 6 (by omega)) (less_user b off) h.1, can_mono (less_bit b off 3 (by omega)) (less_bit b off 1 (by omega)) (less_bit b off 2 (by omega)) (less_bit b off 7 (by omega)) h.2⟩
theorem may_more (b k : Int) (user : Bool) (h : mayE b k user false false = true) : mayE b k user true true = true := by
  unfold mayE whoE canE at h ⊢
  revert h
  cases gb b 6 <;> cases user <;> cases gb b 4 <;> cases k == 0 <;> cases k == 1 <;> cases gb b 1 <;> simp
theorem may_bits {b k : Int} {user sum mxr : Bool} (h : mayE b k user sum mxr = true) : gb b 6 = true ∧ (user = true → gb b 4 = true) ∧ (k = 2 → gb b 2 = true ∧ gb b 7 = true) := by
  unfold mayE at h
  rw [Bool.and_eq_true] at h
  obtain ⟨h6, hw⟩ := who_yes h.1
  refine ⟨h6, fun hu => ?_, fun hk => ?_⟩
  · rcases hw with x | x | x
    · exact x.2
    · rw [hu] at x; cases x.1
    · rw [hu] at x; cases x.1
  · subst hk
    have := h.2
    unfold canE at this
    simpa using this
/-- The bits of an entry that was made. -/
theorem gb_nat (n i : Nat) (h : n < 2 ^ 64) : gb (n : Int) i = n.testBit i := by
  unfold gb
  rw [BitVec.ofInt_natCast, BitVec.getLsbD_ofNat]
  by_cases hi : i < 64
  · rw [decide_eq_true hi, Bool.true_and]
  · rw [decide_eq_false hi, Bool.false_and, Nat.testBit_lt_two_pow (Nat.lt_of_lt_of_le h (Nat.pow_le_pow_right (by decide) (by omega)))]
theorem made_bit {f b : Int} (f0 : 0 ≤ f) (f1 : f ≤ 255) (b0 : 0 ≤ b) (b1 : b ≤ 255) (i : Nat) (hi : i < 8) : gb (makI f b) i = gb b i := by
  obtain ⟨F, rfl⟩ := Int.eq_ofNat_of_zero_le f0
  obtain ⟨B, rfl⟩ := Int.eq_ofNat_of_zero_le b0
  have e : makI (F : Int) (B : Int) = ((2 ^ 8 * F + B : Nat) : Int) := by unfold makI; omega
  rw [e, gb_nat _ _ (by omega), gb_nat _ _ (by omega), Nat.testBit_two_pow_mul_add _ (by omega), if_pos hi]
theorem made_is {f b : Int} (f0 : 0 ≤ f) (f1 : f ≤ 255) (b0 : 0 ≤ b) (b1 : b ≤ 255) : isE (makI f b) = (gb b 0 && ((!gb b 2 || gb b 1) && !gb b 5)) := by
  unfold isE
  rw [made_bit f0 f1 b0 b1 0 (by omega), made_bit f0 f1 b0 b1 2 (by omega), made_bit f0 f1 b0 b1 1 (by omega), made_bit f0 f1 b0 b1 5 (by omega)]
  have e : makI f b / 65536 = 0 := by unfold makI; omega
  rw [e]
  rfl
theorem made_leaf {f b : Int} (f0 : 0 ≤ f) (f1 : f ≤ 255) (b0 : 0 ≤ b) (b1 : b ≤ 255) : leafE (makI f b) = (isE (makI f b) && (gb b 1 || gb b 3)) := by
  unfold leafE
  rw [made_bit f0 f1 b0 b1 1 (by omega), made_bit f0 f1 b0 b1 3 (by omega)]
theorem made_frame {f b : Int} (f0 : 0 ≤ f) (f1 : f ≤ 255) : frI (makI f b) = f := by unfold frI makI; omega
theorem made_low {f b : Int} (b0 : 0 ≤ b) (b1 : b ≤ 255) : bits .and .u64 (makI f b) 255 = b := by
  rw [u_low (makI f b) 8 (by omega) 255 rfl]
  unfold makI
  omega
theorem U_made (f b : Int) : U (makI f b) := by unfold U makI; omega
theorem or_high (x : Int) (h0 : 0 ≤ x) (h1 : x < 65536) (n : Nat) (hn : 16 ≤ n) (hm : n < 64) (m : Int) (hmm : m = ((2 ^ n : Nat) : Int)) : bits .or .u64 x m = m + x ∧ isE (bits .or .u64 x m) = false ∧ U (bits .or .u64 x m) := by
  subst hmm
  obtain ⟨X, rfl⟩ := Int.eq_ofNat_of_zero_le h0
  have hp : 2 ^ 16 ≤ 2 ^ n := Nat.pow_le_pow_right (by decide) hn
  have hq : 2 ^ n ≤ 2 ^ 63 := Nat.pow_le_pow_right (by decide) (by omega)
  have e : bits .or .u64 (X : Int) ((2 ^ n : Nat) : Int) = ((2 ^ n : Nat) : Int) + X := by
    rw [bits_or, BitVec.toNat_or, BitVec.ofInt_natCast, BitVec.ofInt_natCast, BitVec.toNat_ofNat, BitVec.toNat_ofNat, Nat.mod_eq_of_lt (by omega), Nat.mod_eq_of_lt (by omega), Nat.or_comm]
    have h := Nat.two_pow_add_eq_or_of_lt (i := n) (b := X) (by omega) 1
    rw [Nat.mul_one] at h
    rw [← h]
    omega
  refine ⟨e, ?_, U_or _ _⟩
  rw [e]
  generalize 2 ^ n = p at *
  have hd : ¬ ((p : Int) + X) / 65536 = 0 := by omega
  unfold isE
  rw [beq_eq_false_iff_ne.2 hd]
  simp
/-- With A and D beside. -/
def useI (b : Int) : Int := bits .or .i64 (bits .or .i64 b 64) 128
theorem use_6 (b : Int) : gb (useI b) 6 = true := by
  unfold useI
  rw [gb_or, gb_or, show gb 64 6 = true from by decide]
  simp
theorem use_may (b k : Int) (user sum mxr : Bool) : mayE (useI b) k user sum mxr = ((bif user then gb (useI b) 4 else (!gb (useI b) 4 || (sum && !(k == 0)))) && canE (useI b) k mxr) := by
  unfold mayE whoE
  rw [use_6, Bool.true_and]
theorem use_none (b k : Int) (h0 : k ≠ 0) (h1 : k ≠ 1) (h2 : k ≠ 2) (user sum mxr : Bool) : mayE (useI b) k user sum mxr = false := by
  rw [use_may]
  unfold canE
  rw [beq_eq_false_iff_ne.2 h0, beq_eq_false_iff_ne.2 h1, beq_eq_false_iff_ne.2 h2]
  simp
end Go.Proofs.YtpplclenokfpeaaDoor
namespace Go.Proofs.YtpplclenokfpeaaDoor
open Go.RowKit
theorem lo8 : loI 8 = 8 := by decide
theorem lo0 : loI 0 = 0 := by decide
theorem many8 : manyI 8 8 = 8 := by decide
theorem many0 : manyI 0 8 = 8 := by decide
theorem frame_is (e : Int) : bitsI e 8 8 = frI e := by
  unfold bitsI
  rw [lo8, many8, show onesI 8 = 255 by decide]
  exact u_low (e / 256) 8 (by omega) 255 rfl
theorem tb_mak (f b : Int) (i : Nat) : tb (makI f b) i = if i < 8 then tb (IntKind.u64.wrap b) i else if i < 16 then tb (IntKind.u64.wrap f) (i - 8) else false := by
  obtain ⟨F, hF⟩ : ∃ F : Nat, IntKind.u64.wrap f = (F : Int) := ⟨(IntKind.u64.wrap f).toNat, by have := (U_wrap f).1; omega⟩
  obtain ⟨B, hB⟩ : ∃ B : Nat, IntKind.u64.wrap b = (B : Int) := ⟨(IntKind.u64.wrap b).toNat, by have := (U_wrap b).1; omega⟩
  rw [hF, hB]
  rw [IntKind.wrap_u64] at hF hB
  have e : (makI f b).toNat = 2 ^ 8 * (F % 2 ^ 8) + B % 2 ^ 8 := by unfold makI; omega
  unfold tb
  rw [e, Nat.testBit_two_pow_mul_add _ (Nat.mod_lt _ (by decide)), Nat.testBit_mod_two_pow, Nat.testBit_mod_two_pow]
  simp only [Int.toNat_natCast]
  by_cases h8 : i < 8
  · simp [h8]
  · rw [if_neg h8, if_neg h8]
    by_cases h16 : i < 16
    · rw [if_pos h16, decide_eq_true (show i - 8 < 8 by omega), Bool.true_and]
    · rw [if_neg h16, decide_eq_false (show ¬ i - 8 < 8 by omega), Bool.false_and]
theorem U_mak (f b : Int) : U (makI f b) := by unfold U makI; omega
theorem make_is (f b : Int) : setI (setI 0 0 8 (IntKind.u64.wrap b)) 8 8 (IntKind.u64.wrap f) = makI f b := by
  refine U.ext (U_set _ _ _ _) (U_mak f b) fun i hi => ?_
  have u0 : U 0 := by unfold U; omega
  rw [tb_mak, tb_set (U_set _ _ _ _) (U_wrap f) 8 8 i hi, tb_set u0 (U_wrap b) 0 8 i hi, lo8, lo0, many8, many0]
  have z : tb 0 i = false := by simp [tb]
  rw [z]
  by_cases h8 : i < 8
  · rw [if_pos h8, if_neg (by omega), if_pos (by omega)]
    simp
  · rw [if_neg h8]
    by_cases h16 : i < 16
    · rw [if_pos h16, if_pos (by omega)]
      rfl
    · rw [if_neg h16, if_neg (by omega), if_neg (by omega)]
theorem six_is (x : Int) : (bits .and .u64 x 6 != 4) = (!gb x 2 || gb x 1) := by
  have h : bits .and .u64 x 6 = ((BitVec.ofInt 64 x &&& 6#64).toNat : Int) := bits_and x 6
  rw [h]
  unfold gb
  generalize BitVec.ofInt 64 x = v
  have e : (v &&& 6#64) = (v &&& 2#64) ||| (v &&& 4#64) := by
    rw [← BitVec.and_or_distrib_left]
    rfl
  have e1 : v &&& 2#64 = if v.getLsbD 1 then 2#64 else 0#64 := BitVec.and_twoPow v 1
  have e3 : v &&& 4#64 = if v.getLsbD 2 then 4#64 else 0#64 := BitVec.and_twoPow v 2
  rw [e, e1, e3]
  cases v.getLsbD 1 <;> cases v.getLsbD 2 <;> rfl
theorem nat_range10 (v p n : Nat) : v &&& ((2 ^ n - 1) * 2 ^ p) = v / 2 ^ p % 2 ^ n * 2 ^ p := by
  apply Nat.eq_of_testBit_eq
  intro i
  rw [Nat.testBit_and, Nat.testBit_mul_two_pow, Nat.testBit_mul_two_pow, Nat.testBit_two_pow_sub_one, Nat.testBit_mod_two_pow, Nat.testBit_div_two_pow]
  by_cases hi : p ≤ i
  · rw [show i - p + p = i by omega]
    simp only [hi, decide_true, Bool.true_and]
    exact Bool.and_comm _ _
  · simp [hi]
/-- No bit but those that an entry can have. -/
theorem known_is {e : Int} (he : U e) : (bits .andNot .u64 e 65503 == 0) = ((e / 65536 == 0) && !gb e 5) := by
  have h5 := u_no e 5 (by omega) 32 rfl
  rw [← h5]
  obtain ⟨E, rfl, hE⟩ := he.nat
  have e1 : bits .andNot .u64 (E : Int) 65503 = ((E / 2 ^ 16 % 2 ^ 48 * 2 ^ 16 ||| E / 2 ^ 5 % 2 ^ 1 * 2 ^ 5 : Nat) : Int) := by
    rw [bits_andNot, ← nat_range10 E 16 48, ← nat_range10 E 5 1, ← Nat.and_or_distrib_left]
    rw [BitVec.toNat_and, BitVec.ofInt_natCast, BitVec.toNat_ofNat, Nat.mod_eq_of_lt hE]
    rfl
  have e2 : bits .and .u64 (E : Int) 32 = ((E / 2 ^ 5 % 2 ^ 1 * 2 ^ 5 : Nat) : Int) := by
    rw [bits_and, ← nat_range10 E 5 1, BitVec.toNat_and, BitVec.ofInt_natCast, BitVec.toNat_ofNat, Nat.mod_eq_of_lt hE]
    rfl
  rw [e1, e2]
  have hj : E / 2 ^ 16 % 2 ^ 48 * 2 ^ 16 ||| E / 2 ^ 5 % 2 ^ 1 * 2 ^ 5 = 2 ^ 16 * (E / 2 ^ 16 % 2 ^ 48) + E / 2 ^ 5 % 2 ^ 1 * 2 ^ 5 := by
    rw [Nat.mul_comm (E / 2 ^ 16 % 2 ^ 48), ← Nat.two_pow_add_eq_or_of_lt (by omega)]
  rw [hj, Bool.eq_iff_iff]
  simp only [Bool.and_eq_true, beq_iff_eq]
  omega
theorem i_eq (x : Int) (i : Nat) (hi : i < 63) (m : Int) (hm : m = ((2 ^ i : Nat) : Int)) : (bits .and .i64 x m == m) = gb x i := by
  rw [i_and_bit x i hi m hm]
  obtain ⟨p0, p1⟩ := pow_lt i hi
  cases gb x i
  · exact beq_eq_false_iff_ne.2 (show (0 : Int) ≠ m by omega)
  · simp
theorem i_wd (x : Int) : (bits .and .i64 x 132 == 132) = (gb x 2 && gb x 7) := by
  have h : bits .and .i64 x 132 = IntKind.i64.wrap ((BitVec.ofInt 64 x &&& 132#64).toNat : Int) := i_and x 132
  rw [h]
  unfold gb
  generalize BitVec.ofInt 64 x = v
  have e : (v &&& 132#64) = (v &&& 4#64) ||| (v &&& 128#64) := by
    rw [← BitVec.and_or_distrib_left]
    rfl
  have e1 : v &&& 4#64 = if v.getLsbD 2 then 4#64 else 0#64 := BitVec.and_twoPow v 2
  have e3 : v &&& 128#64 = if v.getLsbD 7 then 128#64 else 0#64 := BitVec.and_twoPow v 7
  rw [e, e1, e3]
  cases v.getLsbD 2 <;> cases v.getLsbD 7 <;> rfl
end Go.Proofs.YtpplclenokfpeaaDoor
