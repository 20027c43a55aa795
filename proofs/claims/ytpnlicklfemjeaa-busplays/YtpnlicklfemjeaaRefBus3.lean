/-
  What is read from the document's bus and written to it (Read, Write of the reference): walked whole, for every argument.
-/
import Derived.Test.YtpnlicklfemjeaaRefBus2
import Derived.Test.YtpnlicklfemjeaaRefRead
import Derived.Test.YtpnlicklfemjeaaRefWrite
namespace Go.Proofs.Ytpnlicklfemjeaa
open Go.RowKit
theorem idx_bs (c : UInt8) (r : List UInt8) (w : World) : (Instr.index 9 (.string (bs (c :: r))) (.int .i64 0)).run Try.prog w = .ok (.int .u8 (c.toNat : Int)) w := by
  have hk : 0 < (bs (c :: r)).size := by rw [bs_size]; simp
  have he : (bs (c :: r))[0] = c := rfl
  simp [Instr.index, go_sem, hk, he]
section
variable {w : World} {b p q : Nat} {M : BusM}
set_option maxHeartbeats 1000000 in
theorem rbread_mem (a n : Int) (ha : U a) (hc : codeI a n = 0) (h : RefBus w b p q M) :
    Calls Try.prog 14 #[.pointer (some ⟨b, 0, none⟩), .int .u64 a, .int .i64 n] w fun e w' => e = .returned (.tuple #[.int .u64 (rdZ M.B a n), .bool true]) ∧ Kept w w' := by
  have c0 := h.c0
  obtain ⟨A, N, rfl, rfl, hn, hA⟩ := code_fits ha.1 hc
  have hz : rdZ M.B (A : Int) (N : Int) = rdF M.B A N := by unfold rdZ; rw [if_pos hc, Int.toNat_natCast, Int.toNat_natCast]
  rw [hz]
  go_enter Try.func14, Try.ntmps14
  go_wp2_with fail
  refine (rcode_any _ _ ha _ p q M.B h.m).mono ?_
  rintro e w1 ⟨rfl, k1⟩
  have c0' := (h.kept k1).c0
  rw [hc]
  go_wp2_with fail
  refine (rread_any A N (by omega) hA _ p q M.B (h.m.kept k1)).mono ?_
  rintro e w2 ⟨rfl, k2⟩
  go_wp2
  go_ret2
  exact ⟨rfl, k1.then k2⟩
set_option maxHeartbeats 1000000 in
theorem rbread_time (h : RefBus w b p q M) :
    Calls Try.prog 14 #[.pointer (some ⟨b, 0, none⟩), .int .u64 61440, .int .i64 8] w fun e w' => e = .returned (.tuple #[.int .u64 M.t, .bool true]) ∧ Kept w w' := by
  have c0 := h.c0
  have hu : U 61440 := by unfold U; omega
  have hcode : codeI 61440 8 = 60 := by decide
  go_enter Try.func14, Try.ntmps14
  go_wp2_with fail
  refine (rcode_any _ _ hu _ p q M.B h.m).mono ?_
  rintro e w1 ⟨rfl, k1⟩
  have c1 := (h.kept k1).c1
  have c15 := (h.kept k1).c15
  rw [hcode]
  go_wp2_with (go_at_call 38; refine (rport_any _ hu _).mono ?_; rintro e w' ⟨rfl, rfl⟩)
  go_ret2
  exact ⟨rfl, k1⟩
set_option maxHeartbeats 1000000 in
theorem rbread_alarm (h : RefBus w b p q M) :
    Calls Try.prog 14 #[.pointer (some ⟨b, 0, none⟩), .int .u64 61448, .int .i64 8] w fun e w' => e = .returned (.tuple #[.int .u64 M.a, .bool true]) ∧ Kept w w' := by
  have c0 := h.c0
  have hu : U 61448 := by unfold U; omega
  have hcode : codeI 61448 8 = 60 := by decide
  go_enter Try.func14, Try.ntmps14
  go_wp2_with fail
  refine (rcode_any _ _ hu _ p q M.B h.m).mono ?_
  rintro e w1 ⟨rfl, k1⟩
  have c2 := (h.kept k1).c2
  have c15 := (h.kept k1).c15
  rw [hcode]
  go_wp2_with (go_at_call 38; refine (rport_any _ hu _).mono ?_; rintro e w' ⟨rfl, rfl⟩)
  go_ret2
  exact ⟨rfl, k1⟩
set_option maxRecDepth 100000 in
set_option maxHeartbeats 1000000 in
theorem rbread_port (k : Nat) (hk : k < 4) (h : RefBus w b p q M) :
    Calls Try.prog 14 #[.pointer (some ⟨b, 0, none⟩), .int .u64 (61696 + 256 * (k : Int)), .int .i64 1] w fun e w' => e = .returned (.tuple #[.int .u64 (M.P k).first, .bool true]) ∧ RefBus w' b p q ⟨M.t, M.a, upd M.P k (M.P k).take, M.B⟩ ∧ Only (fun i => i = b ∨ i = q) w w' := by
  have c0 := h.c0
  have hu : U (61696 + 256 * (k : Int)) := by unfold U; omega
  have hcode : codeI (61696 + 256 * (k : Int)) 1 = 60 := code_60 (.inl rfl) (by omega) (by omega)
  have hprt := prt_at k hk
  have n1 : (61696 + 256 * (k : Int) == 61440) = false := beq_eq_false_iff_ne.2 (by omega)
  have n2 : (61696 + 256 * (k : Int) == 61448) = false := beq_eq_false_iff_ne.2 (by omega)
  have l0 : (0 : Int) ≤ (k : Int) := by omega
  have l1 : (k : Int) < 4 := by omega
  have hf : IntKind.u64.wrap (M.P k).first = (M.P k).first := by
    have := ((M.P k).pend.headD 0).toNat_lt
    rw [IntKind.wrap_u64]; unfold Prt.first; omega
  go_enter Try.func14, Try.ntmps14
  go_wp2_with fail
  refine (rcode_any _ _ hu _ p q M.B h.m).mono ?_
  rintro e w1 ⟨rfl, k1⟩
  have h1 := h.kept k1
  have c15 := h1.c15
  have cin := h1.cin hk
  rw [hcode]
  cases hr : (M.P k).pend with
  | nil =>
    rw [hr] at cin
    have hpost : RefBus w1 b p q ⟨M.t, M.a, upd M.P k (M.P k).take, M.B⟩ := by
      refine ⟨h1.row.congr fun j hj => ?_, h1.m, h1.bp, h1.bq, h1.ok.port (h1.ok.P k).take⟩
      rw [refF_take p M hk (M.P k).take rfl rfl]
      by_cases e : j = 3 + k
      · rw [if_pos e, e, refF_in p M hk]; simp only [Prt.take, hr, List.tail_nil]
      · rw [if_neg e]
    have hfi : (M.P k).first = 0 := by simp [Prt.first, hr]
    have hem : bs ([] : List UInt8) = ⟨#[]⟩ := rfl
    rw [hem] at cin
    go_wp2_with (go_at_call 38; refine (rport_any _ hu _).mono ?_; rintro e w' ⟨rfl, rfl⟩; rw [hprt])
    go_ret2
    exact ⟨by rw [hfi]; rfl, hpost, k1.mono fun _ f => f.elim⟩
  | cons c r =>
    rw [hr] at cin
    have hfi : (M.P k).first = (c.toNat : Int) := by simp [Prt.first, hr]
    have hix := idx_bs c r
    have hne : ((bs (c :: r)).toList == []) = false := by rw [ByteArray.toList_eq, bs_list]; rfl
    have fz := h1.row.frozen (3 + k)
    have hsz : ((bs (c :: r)).size : Int) = (r.length : Int) + 1 := by rw [bs_size]; simp
    have hge : (1 : Int) ≤ (r.length : Int) + 1 := by omega
    have hex : (bs (c :: r)).extract 1 (bs (c :: r)).size = bs r := by
      rw [bs_extract, bs_size, List.take_of_length_le (Nat.le_refl _)]; rfl
    have hpost := h1.to ((Only.refl (fun i => i = b) w1).drew.setCell (x := ⟨b, 3 + k, none⟩) rfl (.string (bs r))) (M' := ⟨M.t, M.a, upd M.P k (M.P k).take, M.B⟩) ((h1.row.drew.set (3 + k) (.string (bs r))).congr fun j hj => by
      rw [refF_take p M hk (M.P k).take rfl rfl]
      simp only [Prt.take, hr, List.tail_cons]) rfl (h1.ok.port (h1.ok.P k).take)
    rw [hfi] at hf
    obtain ⟨s, hs⟩ : ∃ s, s = bs (c :: r) := ⟨_, rfl⟩
    rw [← hs] at cin hix hne hsz hex
    clear hr hs
    go_wp2_with (go_at_call 38; refine (rport_any _ hu _).mono ?_; rintro e w' ⟨rfl, rfl⟩; rw [hprt])
    go_region
    go_wp2
    go_ret2
    exact ⟨by rw [hfi]; rfl, hpost.1, Kept.then k1 hpost.2⟩
set_option maxRecDepth 10000 in
set_option maxHeartbeats 1000000 in
theorem rbread_nport (k : Nat) (hk : k < 4) (n : Int) (hn : ¬ n = 1) (h : RefBus w b p q M) :
    Calls Try.prog 14 #[.pointer (some ⟨b, 0, none⟩), .int .u64 (61696 + 256 * (k : Int)), .int .i64 n] w fun e w' => e = .returned (.tuple #[.int .u64 0, .bool false]) ∧ Kept w w' := by
  have c0 := h.c0
  have hu : U (61696 + 256 * (k : Int)) := by unfold U; omega
  have hcode : (codeI (61696 + 256 * (k : Int)) n == 0) = false := beq_eq_false_iff_ne.2 (code_far (by omega))
  have hprt := prt_at k hk
  have n1 : (61696 + 256 * (k : Int) == 61440) = false := beq_eq_false_iff_ne.2 (by omega)
  have n2 : (61696 + 256 * (k : Int) == 61448) = false := beq_eq_false_iff_ne.2 (by omega)
  have n3 : (n == 1) = false := beq_eq_false_iff_ne.2 hn
  have l0 : (0 : Int) ≤ (k : Int) := by omega
  go_enter Try.func14, Try.ntmps14
  go_wp2_with fail
  refine (rcode_any _ _ hu _ p q M.B h.m).mono ?_
  rintro e w1 ⟨rfl, k1⟩
  have c15 := (h.kept k1).c15
  go_wp2_with (go_at_call 38; refine (rport_any _ hu _).mono ?_; rintro e w' ⟨rfl, rfl⟩; rw [hprt])
  go_ret2
  exact ⟨rfl, k1⟩
set_option maxRecDepth 10000 in
set_option maxHeartbeats 1000000 in
theorem rbread_none (a n : Int) (ha : U a) (hc : ¬ codeI a n = 0) (hp : ¬ 0 ≤ prtI a) (h1 : ¬ (a = 61440 ∧ n = 8)) (h2 : ¬ (a = 61448 ∧ n = 8)) (h : RefBus w b p q M) :
    Calls Try.prog 14 #[.pointer (some ⟨b, 0, none⟩), .int .u64 a, .int .i64 n] w fun e w' => e = .returned (.tuple #[.int .u64 0, .bool false]) ∧ Kept w w' := by
  have c0 := h.c0
  have hcode : (codeI a n == 0) = false := beq_eq_false_iff_ne.2 hc
  have hprt := (prt_no hp).1
  by_cases e1 : a = 61440
  · have n1 : (n == 8) = false := beq_eq_false_iff_ne.2 (fun e => h1 ⟨e1, e⟩)
    subst e1
    clear h1 h2 hp hc
    go_enter Try.func14, Try.ntmps14
    go_wp2_with fail
    refine (rcode_any _ _ ha _ p q M.B h.m).mono ?_
    rintro e w1 ⟨rfl, k1⟩
    have c15 := (h.kept k1).c15
    go_wp2_with (go_at_call 38; refine (rport_any _ ha _).mono ?_; rintro e w' ⟨rfl, rfl⟩; rw [hprt])
    go_ret2
    exact ⟨rfl, k1⟩
  · have n1 : (a == 61440) = false := beq_eq_false_iff_ne.2 e1
    by_cases e2 : a = 61448
    · have n2 : (n == 8) = false := beq_eq_false_iff_ne.2 (fun e => h2 ⟨e2, e⟩)
      subst e2
      clear h1 h2 hp hc e1
      go_enter Try.func14, Try.ntmps14
      go_wp2_with fail
      refine (rcode_any _ _ ha _ p q M.B h.m).mono ?_
      rintro e w1 ⟨rfl, k1⟩
      have c15 := (h.kept k1).c15
      go_wp2_with (go_at_call 38; refine (rport_any _ ha _).mono ?_; rintro e w' ⟨rfl, rfl⟩; rw [hprt])
      go_ret2
      exact ⟨rfl, k1⟩
    · have n2 : (a == 61448) = false := beq_eq_false_iff_ne.2 e2
      clear h1 h2 hp hc e1 e2
      go_enter Try.func14, Try.ntmps14
      go_wp2_with fail
      refine (rcode_any _ _ ha _ p q M.B h.m).mono ?_
      rintro e w1 ⟨rfl, k1⟩
      have c15 := (h.kept k1).c15
      go_wp2_with (go_at_call 38; refine (rport_any _ ha _).mono ?_; rintro e w' ⟨rfl, rfl⟩; rw [hprt])
      go_ret2
      exact ⟨rfl, k1⟩
theorem rbread_any (a n : Int) (ha : U a) (h : RefBus w b p q M) :
    Calls Try.prog 14 #[.pointer (some ⟨b, 0, none⟩), .int .u64 a, .int .i64 n] w fun e w' => e = .returned (.tuple #[.int .u64 (rdV M a n), .bool (rdB a n)]) ∧ RefBus w' b p q (rdN M a n) ∧ Only (fun i => i = b ∨ i = q) w w' := by
  have fin : ∀ (w' : World), Kept w w' → RefBus w' b p q M ∧ Only (fun i => i = b ∨ i = q) w w' := fun w' k => ⟨h.kept k, k.mono fun _ f => f.elim⟩
  by_cases hc : codeI a n = 0
  · have hlt := (code_zero hc).2.2
    have hp : ¬ 0 ≤ prtI a := fun hp => by obtain ⟨k, hk, e, rfl⟩ := prt_yes hp; omega
    have hV : rdV M a n = rdZ M.B a n := by unfold rdV; rw [if_pos hc]
    have hB : rdB a n = true := by unfold rdB; exact decide_eq_true (.inl hc)
    have hN : rdN M a n = M := by unfold rdN; rw [if_neg (fun x => hp x.1)]
    rw [hV, hB, hN]
    exact (rbread_mem a n ha hc h).mono fun _ _ ⟨h1, h2⟩ => ⟨h1, fin _ h2⟩
  · by_cases hp : 0 ≤ prtI a
    · obtain ⟨k, hk, e, rfl⟩ := prt_yes hp
      by_cases hn : n = 1
      · subst hn
        have hV : rdV M (61696 + 256 * (k : Int)) 1 = (M.P k).first := by
          unfold rdV
          rw [if_neg hc, if_neg (by omega), if_neg (by omega), if_pos ⟨hp, rfl⟩, e, Int.toNat_natCast]
        have hB : rdB (61696 + 256 * (k : Int)) 1 = true := by unfold rdB; exact decide_eq_true (.inr (.inr (.inr ⟨hp, rfl⟩)))
        have hN : rdN M (61696 + 256 * (k : Int)) 1 = ⟨M.t, M.a, upd M.P k (M.P k).take, M.B⟩ := by unfold rdN; rw [if_pos ⟨hp, rfl⟩, e, Int.toNat_natCast]
        rw [hV, hB, hN]
        exact rbread_port k hk h
      · have hV : rdV M (61696 + 256 * (k : Int)) n = 0 := by
          unfold rdV
          rw [if_neg hc, if_neg (by omega), if_neg (by omega), if_neg (fun x => hn x.2)]
        have hB : rdB (61696 + 256 * (k : Int)) n = false := by unfold rdB; exact decide_eq_false (by rintro (x | x | x | x); exact hc x; omega; omega; exact hn x.2)
        have hN : rdN M (61696 + 256 * (k : Int)) n = M := by unfold rdN; rw [if_neg (fun x => hn x.2)]
        rw [hV, hB, hN]
        exact (rbread_nport k hk n hn h).mono fun _ _ ⟨h1, h2⟩ => ⟨h1, fin _ h2⟩
    · have hN : rdN M a n = M := by unfold rdN; rw [if_neg (fun x => hp x.1)]
      rw [hN]
      by_cases h1 : a = 61440 ∧ n = 8
      · obtain ⟨rfl, rfl⟩ := h1
        have hV : rdV M 61440 8 = M.t := by unfold rdV; rw [if_neg hc, if_pos ⟨rfl, rfl⟩]
        have hB : rdB 61440 8 = true := by decide
        rw [hV, hB]
        exact (rbread_time h).mono fun _ _ ⟨h1, h2⟩ => ⟨h1, fin _ h2⟩
      · by_cases h2 : a = 61448 ∧ n = 8
        · obtain ⟨rfl, rfl⟩ := h2
          have hV : rdV M 61448 8 = M.a := by unfold rdV; rw [if_neg hc, if_neg h1, if_pos ⟨rfl, rfl⟩]
          have hB : rdB 61448 8 = true := by decide
          rw [hV, hB]
          exact (rbread_alarm h).mono fun _ _ ⟨h1, h2⟩ => ⟨h1, fin _ h2⟩
        · have hV : rdV M a n = 0 := by unfold rdV; rw [if_neg hc, if_neg h1, if_neg h2, if_neg (fun x => hp x.1)]
          have hB : rdB a n = false := by unfold rdB; exact decide_eq_false (by rintro (x | x | x | x); exact hc x; exact h1 x; exact h2 x; exact hp x.1)
          rw [hV, hB]
          exact (rbread_none a n ha hc hp h1 h2 h).mono fun _ _ ⟨h1, h2⟩ => ⟨h1, fin _ h2⟩
end
end Go.Proofs.Ytpnlicklfemjeaa
