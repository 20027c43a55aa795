/-
  What statement BusPorts asks: walked for every argument.
-/
import Derived.Test.YtpnlicklfemjeaaBLaws
import Derived.Test.YtpnlicklfemjeaaRefPlain
import Derived.Test.YtpnlicklfemjeaaRefBus2
namespace Go.Proofs.Ytpnlicklfemjeaa
open Go.RowKit
/-- A bus of which one port alone was used. -/
def qM (k : Nat) (x : Prt) : BusM := ⟨0, 18446744073709551615, upd (fun _ => .new) k x, fun _ => 0⟩
theorem upd_upd (P : Nat → Prt) (k : Nat) (x y : Prt) : upd (upd P k x) k y = upd P k y := by
  funext j; unfold upd; split <;> rfl
theorem q_code {k : Nat} (n : Int) : ¬ codeI (61696 + 256 * (k : Int)) n = 0 := code_far (by omega)
theorem q_rdV {k : Nat} (hk : k < 4) (x : Prt) : rdV (qM k x) (61696 + 256 * (k : Int)) 1 = x.first := by
  unfold rdV
  rw [if_neg (q_code 1), if_neg (by omega), if_neg (by omega), if_pos ⟨by rw [prt_at k hk]; omega, rfl⟩, prt_at k hk, Int.toNat_natCast]
  show (upd _ k x k).first = _
  rw [upd_same]
theorem q_rdN {k : Nat} (hk : k < 4) (x : Prt) : rdN (qM k x) (61696 + 256 * (k : Int)) 1 = qM k x.take := by
  unfold rdN
  rw [if_pos ⟨by rw [prt_at k hk]; omega, rfl⟩, prt_at k hk, Int.toNat_natCast]
  show BusM.mk _ _ (upd (upd _ k x) k (upd _ k x k).take) _ = _
  rw [upd_upd, upd_same]
  rfl
theorem q_wrN {k : Nat} (hk : k < 4) (x : Prt) (v : Int) : wrN (qM k x) (61696 + 256 * (k : Int)) 1 v = qM k (x.put (u8 v)) := by
  unfold wrN
  rw [if_neg (q_code 1), if_neg (by omega), if_pos ⟨by rw [prt_at k hk]; omega, rfl⟩, prt_at k hk, Int.toNat_natCast]
  show BusM.mk _ _ (upd (upd _ k x) k ((upd _ k x k).put (u8 v))) _ = _
  rw [upd_upd, upd_same]
  rfl
theorem q_typ {k : Nat} (hk : k < 4) (S : List UInt8) : typN (.new (fun _ => 0)) (k : Int) S = qM k (Prt.new.type S) := by
  unfold typN
  rw [if_pos (by omega), Int.toNat_natCast]
  rfl
theorem q_out {k : Nat} (hk : k < 4) (x : Prt) : outS (qM k x) (k : Int) = bs x.out := by
  unfold outS
  rw [if_pos (by omega), Int.toNat_natCast]
  show bs (upd _ k x k).out = _
  rw [upd_same]
theorem q_other {k : Nat} (x : Prt) (j : Nat) (hj : j ≠ k) : outS (qM k x) (j : Int) = ⟨#[]⟩ := by
  unfold outS
  split
  · rw [Int.toNat_natCast]
    show bs (upd _ k x j).out = _
    rw [upd_other _ _ hj]
    rfl
  · rfl
theorem q_rdB {k : Nat} (hk : k < 4) : rdB (61696 + 256 * (k : Int)) 1 = true := decide_eq_true (.inr (.inr (.inr ⟨by rw [prt_at k hk]; omega, rfl⟩)))
theorem q_wrB {k : Nat} (hk : k < 4) : wrB (61696 + 256 * (k : Int)) 1 = true := decide_eq_true (.inr (.inr ⟨by rw [prt_at k hk]; omega, rfl⟩))
theorem q_two {k : Nat} (hk : k < 4) : rdB (61696 + 256 * (k : Int)) 2 = false := decide_eq_false (by rintro (e | e | e | e); exact q_code 2 e; omega; omega; omega)
theorem q_next1 {k : Nat} : prtI (61696 + 256 * (k : Int) + 1) = -1 := by unfold prtI; rw [if_pos (by omega)]
theorem q_next {k : Nat} (hk : k < 4) : rdB (61696 + 256 * (k : Int) + 1) 1 = false := decide_eq_false (by
  have h := q_next1 (k := k)
  rintro (e | e | e | e); exact code_far (by omega) e; omega; omega; omega)
theorem q_nextW {k : Nat} (hk : k < 4) : wrB (61696 + 256 * (k : Int) + 1) 1 = false := decide_eq_false (by
  have h := q_next1 (k := k)
  rintro (e | e | e); exact code_far (by omega) e; omega; omega)
/-- The port behind i reads. -/
def rP (S : List UInt8) (i : Nat) : Prt := ⟨(S.take 64).drop i, min S.length 64, []⟩
theorem rP_zero (S : List UInt8) : Prt.new.type S = rP S 0 := by simp [Prt.type, Prt.new, rP]
theorem rP_take (S : List UInt8) (i : Nat) : (rP S i).take = rP S (i + 1) := by simp [rP, Prt.take]
theorem rP_first (S : List UInt8) (i : Nat) : (rP S i).first = if i < S.length ∧ i < 64 then ((S.getD i 0).toNat : Int) else 0 := by
  unfold Prt.first rP
  simp only
  by_cases h : i < S.length ∧ i < 64
  · rw [if_pos h]
    congr 2
    rw [List.headD_eq_head?_getD, List.head?_drop, List.getElem?_take, if_pos h.2, List.getD_eq_getElem?_getD]
  · rw [if_neg h, List.drop_eq_nil_of_le (by simp; omega)]
    rfl
theorem last_last (l : List UInt8) (c : UInt8) : last64 (last64 l ++ [c]) = last64 (l ++ [c]) := by
  unfold last64
  simp only [List.length_append, List.length_drop, List.length_cons, List.length_nil]
  by_cases h : l.length ≤ 64
  · rw [show l.length - 64 = 0 by omega, List.drop_zero, Nat.sub_zero]
  · rw [show l.length - (l.length - 64) + (0 + 1) - 64 = 1 by omega, show l.length + (0 + 1) - 64 = (l.length - 64) + 1 by omega, ← List.drop_drop, List.drop_append_of_le_length (show l.length - 64 ≤ l.length by omega), List.drop_append_of_le_length (by simp; omega)]
/-- The port behind i bytes put out. -/
def wP (S O : List UInt8) (i : Nat) : Prt := ⟨(S.take 64).drop (S.length + 1), min S.length 64, last64 (O.take i)⟩
theorem wP_put (S O : List UInt8) (i : Nat) (h : i < O.length) : (wP S O i).put (O.getD i 0) = wP S O (i + 1) := by
  unfold wP Prt.put
  simp only
  rw [last_last, show O.take (i + 1) = O.take i ++ O[i]?.toList from List.take_add_one, List.getElem?_eq_getElem h, List.getD_eq_getElem?_getD, List.getElem?_eq_getElem h]
  rfl
theorem wP_all (S O : List UInt8) (i : Nat) (h : O.length ≤ i) : wP S O i = ⟨(S.take 64).drop (S.length + 1), min S.length 64, last64 O⟩ := by
  unfold wP; rw [List.take_of_length_le (l := O) h]
theorem u8_back (c : UInt8) : u8 (c.toNat : Int) = c := by
  have h := c.toNat_lt
  unfold u8
  rw [show ((c.toNat : Int) % 256).toNat = c.toNat by omega]
  simp
theorem at_getD (s : ByteArray) (i : Nat) (h : i < s.size) : s.data.toList.getD i 0 = s[i] := by
  rw [List.getD_eq_getElem?_getD, List.getElem?_eq_getElem (by simpa using h), Array.getElem_toList]
  rfl
set_option maxRecDepth 100000 in
set_option maxHeartbeats 2000000 in
theorem bports_long (s u : ByteArray) (pt : Int) (h : ¬ (s.size ≤ 100 ∧ u.size ≤ 100)) (w : World) :
    Calls Try.prog 4 #[.string s, .string u, .int .u8 pt] w fun e w' => e = .returned (.bool true) ∧ Kept w w' := by
  by_cases h1 : s.size ≤ 100
  · have h1' : ¬ 100 < (s.size : Int) := by omega
    have h2 : 100 < (u.size : Int) := by omega
    clear h
    go_enter Try.func4, Try.ntmps4
    go_wp2_with fail
    refine (known7_any w).mono ?_
    rintro e w0 ⟨rfl, s0⟩
    go_wp2
    go_ret
    exact ⟨rfl, s0⟩
  · have h1' : 100 < (s.size : Int) := by omega
    clear h
    go_enter Try.func4, Try.ntmps4
    go_wp2_with fail
    refine (known7_any w).mono ?_
    rintro e w0 ⟨rfl, s0⟩
    go_wp2
    go_ret
    exact ⟨rfl, s0⟩
set_option maxRecDepth 100000 in
set_option maxHeartbeats 2000000 in
theorem bports_walk (s u : ByteArray) (pt : Int) (h1 : s.size ≤ 100) (h2 : u.size ≤ 100) (p0 : 0 ≤ pt) (p1 : pt ≤ 255) (w : World) :
    Calls Try.prog 4 #[.string s, .string u, .int .u8 pt] w fun e w' => e = .returned (.bool true) ∧ Kept w w' := by
  obtain ⟨k, hk⟩ : ∃ k : Nat, pt % 4 = k := ⟨(pt % 4).toNat, by omega⟩
  have hk4 : k < 4 := by omega
  have hpt : IntKind.i64.wrap (pt % 4) = (k : Int) := by rw [hk, IntKind.wrap_i64]; omega
  have hw1 : IntKind.i64.wrap (256 * (k : Int)) = 256 * (k : Int) := by rw [IntKind.wrap_i64]; omega
  have hw2 : IntKind.i64.wrap (61696 + 256 * (k : Int)) = 61696 + 256 * (k : Int) := by rw [IntKind.wrap_i64]; omega
  have hw3 : IntKind.u64.wrap (61696 + 256 * (k : Int)) = 61696 + 256 * (k : Int) := by rw [IntKind.wrap_u64]; omega
  have hU : U (61696 + 256 * (k : Int)) := by unfold U; omega
  have g1 : ¬ 100 < (s.size : Int) := by omega
  have g2 : ¬ 100 < (u.size : Int) := by omega
  have hmx := fun ts t k k' x y w => run_mx (P := Try.prog) (w := w) ts t k k' x y
  have hsl : s.data.toList.length = s.size := by simp
  have hul : u.data.toList.length = u.size := by simp
  clear hk
  go_enter Try.func4, Try.ntmps4
  go_wp2_with fail
  refine (known7_any w).mono ?_
  rintro e w0 ⟨rfl, s0⟩
  go_wp2_with fail
  refine (one_new s0).mono ?_
  rintro e w1 ⟨b, rfl, s1⟩
  go_wp2_with fail
  refine (one_type s1 _ _).mono ?_
  rintro e w2 ⟨rfl, s2⟩
  rw [q_typ hk4, rP_zero] at s2
  clear s0 s1
  go_wp2
  go_loopw [10] (fun i wr => ∃ j : Nat, j ≤ s.size + 1 ∧ i = .int .i64 (j : Int) ∧ OneB w wr b (qM k (rP s.data.toList j))) (fun i _ => s.size + 1 - (intOf i).toNat)
  case atStart => exact ⟨0, by omega, rfl, s2⟩
  case round =>
    obtain ⟨j, hj, rfl, hr⟩ := hrel
    clear s2
    by_cases hlt : j ≤ s.size
    · have hlt' : (j : Int) ≤ (s.size : Int) := by omega
      go_wp2_with fail
      refine (one_read hr _ _ hU).mono ?_
      rintro e w3 ⟨rfl, s3⟩
      rw [q_rdN hk4, rP_take] at s3
      rw [q_rdV hk4, q_rdB hk4, rP_first, hsl]
      by_cases hb : j < s.size
      · by_cases hc : j < 64
        · rw [if_pos ⟨hb, hc⟩, at_getD s j hb]
          have hw : IntKind.u64.wrap ((s[j].toNat : Nat) : Int) = ((s[j].toNat : Nat) : Int) := wrap_id (by have := s[j].toNat_lt; unfold U; omega)
          have c1 : (j : Int) < (s.size : Int) := by omega
          have c2 : (j : Int) < 64 := by omega
          go_wp2
          exact ⟨⟨j + 1, by omega, by go_num, s3⟩, by simp [intOf]; omega⟩
        · rw [if_neg (fun e => hc e.2)]
          have c1 : (j : Int) < (s.size : Int) := by omega
          have c2 : ¬ (j : Int) < 64 := by omega
          go_wp2
          exact ⟨⟨j + 1, by omega, by go_num, s3⟩, by simp [intOf]; omega⟩
      · rw [if_neg (fun e => hb e.1)]
        have c1 : ¬ (j : Int) < (s.size : Int) := by omega
        go_wp2
        exact ⟨⟨j + 1, by omega, by go_num, s3⟩, by simp [intOf]; omega⟩
    · obtain rfl : j = s.size + 1 := by omega
      have hlt' : ¬ ((s.size + 1 : Nat) : Int) ≤ (s.size : Int) := by omega
      have hr0 : OneB w wr b (qM k (wP s.data.toList u.data.toList 0)) := by
        have e : rP s.data.toList (s.size + 1) = wP s.data.toList u.data.toList 0 := by
          unfold rP wP; rw [hsl]; rfl
        rw [← e]; exact hr
      clear hr
      go_wp2
      go_loopw [14] (fun i wr => ∃ j : Nat, j ≤ u.size ∧ i = .int .i64 (j : Int) ∧ OneB w wr b (qM k (wP s.data.toList u.data.toList j))) (fun i _ => u.size - (intOf i).toNat)
      case atStart => exact ⟨0, by omega, rfl, hr0⟩
      case round =>
        obtain ⟨j, hj, rfl, hr⟩ := hrel
        clear hr0
        by_cases hlt : j < u.size
        · have hlt2 : (j : Int) < (u.size : Int) := by omega
          have hw : IntKind.u64.wrap ((u[j].toNat : Nat) : Int) = ((u[j].toNat : Nat) : Int) := wrap_id (by have := u[j].toNat_lt; unfold U; omega)
          go_wp2_with fail
          refine (one_write hr _ _ _ hU).mono ?_
          rintro e w3 ⟨rfl, s3⟩
          rw [q_wrN hk4, u8_back, ← at_getD u j hlt, wP_put _ _ _ (by rw [hul]; exact hlt)] at s3
          rw [q_wrB hk4]
          go_wp2
          exact ⟨⟨j + 1, by omega, by go_num, s3⟩, by simp [intOf]; omega⟩
        · obtain rfl : j = u.size := by omega
          have hx := wP_all s.data.toList u.data.toList u.size (by rw [hul]; exact Nat.le_refl _)
          rw [hx] at hr
          obtain ⟨x, hxx⟩ : ∃ x : Prt, x = ⟨(s.data.toList.take 64).drop (s.data.toList.length + 1), min s.data.toList.length 64, last64 u.data.toList⟩ := ⟨_, rfl⟩
          have hxo : x.out = last64 u.data.toList := by rw [hxx]
          rw [← hxx] at hr
          clear hx hxx
          go_wp2
          go_loopw [15] (fun i wr => ∃ j : Nat, j ≤ 4 ∧ i = .int .i64 (j : Int) ∧ OneB w wr b (qM k x)) (fun i _ => 4 - (intOf i).toNat)
          case atStart => exact ⟨0, by omega, rfl, hr⟩
          case round =>
            obtain ⟨j, hj, rfl, hr3⟩ := hrel
            clear hr
            by_cases hlt3 : j < 4
            · have c1 : (j : Int) < 4 := by omega
              by_cases ejk : j = k
              · have hq := q_out hk4 x
                rw [hxo] at hq
                obtain ⟨m, hm⟩ : ∃ m : Nat, m = u.size - 64 := ⟨_, rfl⟩
                have hmm : mx 0 ((u.size : Int) - 64) = (m : Int) := by unfold mx; split <;> omega
                have hwm : IntKind.i64.wrap ((u.size : Int) - 64) = (u.size : Int) - 64 := by rw [IntKind.wrap_i64]; omega
                have m0 : (0 : Int) ≤ (m : Int) := by omega
                have m1 : (m : Int) ≤ (u.size : Int) := by omega
                have m2 : m ≤ u.size := by omega
                have hex : u.extract m u.size = bs (last64 u.data.toList) := by
                  rw [← bs_data u, bs_extract, bs_size, bs_list, List.take_of_length_le (Nat.le_refl _), hm]
                  unfold last64
                  rw [hul]
                have ejk' : ((k : Int) == (k : Int)) = true := beq_self_eq_true _
                have hbb : ((bs (last64 u.data.toList)).toList == (bs (last64 u.data.toList)).toList) = true := beq_self_eq_true _
                rw [ejk]
                clear hm
                go_wp2_with fail
                refine (one_out hr3 _).mono ?_
                rintro e w4 ⟨rfl, s4⟩
                rw [hq]
                go_wp2
                exact ⟨⟨k + 1, by omega, by go_num, s4⟩, by simp [intOf]; omega⟩
              · have hq := q_other (k := k) x j ejk
                have ejk' : ((j : Int) == (k : Int)) = false := beq_eq_false_iff_ne.2 (by omega)
                go_wp2_with fail
                refine (one_out hr3 _).mono ?_
                rintro e w4 ⟨rfl, s4⟩
                rw [hq]
                go_wp2
                exact ⟨⟨j + 1, by omega, by go_num, s4⟩, by simp [intOf]; omega⟩
            · obtain rfl : j = 4 := by omega
              have hU1 : U (61696 + 256 * (k : Int) + 1) := by unfold U; omega
              have hw4 : IntKind.u64.wrap (61696 + 256 * (k : Int) + 1) = 61696 + 256 * (k : Int) + 1 := by rw [IntKind.wrap_u64]; omega
              go_wp2_with fail
              refine (one_read hr3 _ _ hU).mono ?_
              rintro e w4 ⟨rfl, s4⟩
              rw [q_two hk4]
              go_wp2_with fail
              refine (one_read s4 _ _ hU1).mono ?_
              rintro e w5 ⟨rfl, s5⟩
              rw [q_next hk4]
              go_wp2_with fail
              refine (one_write s5 _ _ _ hU1).mono ?_
              rintro e w6 ⟨rfl, s6⟩
              rw [q_nextW hk4]
              go_wp2
              go_ret
              exact ⟨rfl, s6.k⟩
theorem bports_any (s u : ByteArray) (pt : Int) (p0 : 0 ≤ pt) (p1 : pt ≤ 255) (w : World) :
    Calls Try.prog 4 #[.string s, .string u, .int .u8 pt] w fun e w' => e = .returned (.bool true) ∧ Kept w w' := by
  by_cases h : s.size ≤ 100 ∧ u.size ≤ 100
  · exact bports_walk s u pt h.1 h.2 p0 p1 w
  · exact bports_long s u pt h w
end Go.Proofs.Ytpnlicklfemjeaa
