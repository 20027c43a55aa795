/-
  What package bus's Read and Write do (the landed package's): walked whole, for every argument.
-/
import Derived.Test.YtpnlicklfemjeaaTBus
namespace Go.Proofs.Ytpnlicklfemjeaa
open Go.RowKit
section
variable {w : World} {b p q : Nat} {F : Nat → Value} {M : BusM}
theorem dev_of {a : Int} (h : ¬ devB a = true) : ¬ 0 ≤ prtI a ∧ ¬ a = 61440 ∧ ¬ a = 61448 := by
  have h' : ¬ (61440 ≤ a ∧ a < 62720) := by simpa [devB] using h
  refine ⟨fun hp => ?_, by omega, by omega⟩
  obtain ⟨k, hk, _, e⟩ := prt_yes hp
  omega
theorem dev_far {a n : Int} (h : devB a = true) : ¬ codeI a n = 0 := by
  have h' : 61440 ≤ a ∧ a < 62720 := by simpa [devB] using h
  exact code_far (by omega)
theorem rd_mem {a n : Int} (h : ¬ devB a = true) : rdV M a n = rdZ M.B a n ∧ rdB a n = (codeI a n == 0) ∧ rdN M a n = M := by
  obtain ⟨h1, h2, h3⟩ := dev_of h
  refine ⟨?_, ?_, ?_⟩
  · unfold rdV
    by_cases hc : codeI a n = 0
    · rw [if_pos hc]
    · rw [if_neg hc, if_neg (fun e => h2 e.1), if_neg (fun e => h3 e.1), if_neg (fun e => h1 e.1), rdZ_no hc]
  · unfold rdB
    apply Bool.eq_iff_iff.2
    simp [h1, h2, h3]
  · unfold rdN; rw [if_neg (fun e => h1 e.1)]
set_option maxHeartbeats 1000000 in
theorem told_mem (a n : Int) (ha : U a) (hd : ¬ devB a = true) (h : BusC w b p q F M) :
    Calls Try.prog 34 #[.pointer (some ⟨b, 0, none⟩), .int .u64 a, .int .i64 n] w fun e w' => e = .returned (.tuple #[.int .u64 (rdV M a n), .bool (rdB a n)]) ∧ BusAt w' b p q (rdN M a n) ∧ Only (fun i => i = b ∨ i = q) w w' := by
  obtain ⟨e1, e2, e3⟩ := rd_mem (M := M) (n := n) hd
  rw [e1, e2, e3]
  have hd' : devB a = false := by simpa using hd
  have c0 := h.c0
  go_enter Try.func34, Try.ntmps34
  go_wp2_with first | (go_at_call 23; refine (dev_any _ _ _).mono ?_; rintro e w' ⟨rfl, rfl⟩) | (go_at_call 30; refine (mread_any a n ha _ p q M.B h.m).mono ?_; rintro e w' ⟨rfl, hk⟩)
  go_ret2
  exact ⟨rfl, h.at.kept hk, hk.mono fun _ f => f.elim⟩
set_option maxHeartbeats 1000000 in
theorem told_time (h : BusC w b p q F M) :
    Calls Try.prog 34 #[.pointer (some ⟨b, 0, none⟩), .int .u64 61440, .int .i64 8] w fun e w' => e = .returned (.tuple #[.int .u64 M.t, .bool true]) ∧ w' = w := by
  have hd' : devB 61440 = true := by decide
  have c1 := h.c1
  go_enter Try.func34, Try.ntmps34
  go_wp2_with (go_at_call 23; refine (dev_any _ _ _).mono ?_; rintro e w' ⟨rfl, rfl⟩)
  go_ret2
  exact ⟨rfl, rfl⟩
set_option maxHeartbeats 1000000 in
theorem told_alarm (h : BusC w b p q F M) :
    Calls Try.prog 34 #[.pointer (some ⟨b, 0, none⟩), .int .u64 61448, .int .i64 8] w fun e w' => e = .returned (.tuple #[.int .u64 M.a, .bool true]) ∧ w' = w := by
  have hd' : devB 61448 = true := by decide
  have c2 := h.c2
  go_enter Try.func34, Try.ntmps34
  go_wp2_with (go_at_call 23; refine (dev_any _ _ _).mono ?_; rintro e w' ⟨rfl, rfl⟩)
  go_ret2
  exact ⟨rfl, rfl⟩
set_option maxHeartbeats 1000000 in
theorem told_port (k : Nat) (hk : k < 4) (h : BusC w b p q F M) :
    Calls Try.prog 34 #[.pointer (some ⟨b, 0, none⟩), .int .u64 (61696 + 256 * (k : Int)), .int .i64 1] w fun e w' => e = .returned (.tuple #[.int .u64 (M.P k).first, .bool true]) ∧ BusAt w' b p q ⟨M.t, M.a, upd M.P k (M.P k).take, M.B⟩ ∧ Only (fun i => i = b ∨ i = q) w w' := by
  have hd' : devB (61696 + 256 * (k : Int)) = true := by unfold devB; exact decide_eq_true (by omega)
  have n1 : (61696 + 256 * (k : Int) == 61440) = false := beq_eq_false_iff_ne.2 (by omega)
  have n2 : (61696 + 256 * (k : Int) == 61448) = false := beq_eq_false_iff_ne.2 (by omega)
  have hf : IntKind.u64.wrap (M.P k).first = (M.P k).first := by
    have := ((M.P k).pend.headD 0).toNat_lt
    rw [IntKind.wrap_u64]; unfold Prt.first; omega
  go_enter Try.func34, Try.ntmps34
  go_wp2_with first | (go_at_call 23; refine (dev_any _ _ _).mono ?_; rintro e w' ⟨rfl, rfl⟩) | (go_at_call 39; refine (portAt_yes k hk _).mono ?_; rintro e w' ⟨rfl, rfl⟩) | (go_at_call 51; refine (take_any h.row (by omega) (h.f.port k hk)).mono ?_; rintro e w' ⟨rfl, hto⟩)
  go_ret2
  exact ⟨rfl, h.port_to hk hto⟩
set_option maxHeartbeats 1000000 in
theorem told_nport (k : Nat) (hk : k < 4) (n : Int) (hn : ¬ n = 1) (h : BusC w b p q F M) :
    Calls Try.prog 34 #[.pointer (some ⟨b, 0, none⟩), .int .u64 (61696 + 256 * (k : Int)), .int .i64 n] w fun e w' => e = .returned (.tuple #[.int .u64 0, .bool false]) ∧ w' = w := by
  have hd' : devB (61696 + 256 * (k : Int)) = true := by unfold devB; exact decide_eq_true (by omega)
  have n1 : (61696 + 256 * (k : Int) == 61440) = false := beq_eq_false_iff_ne.2 (by omega)
  have n2 : (61696 + 256 * (k : Int) == 61448) = false := beq_eq_false_iff_ne.2 (by omega)
  have n3 : (n != 1) = true := by simpa using hn
  go_enter Try.func34, Try.ntmps34
  go_wp2_with first | (go_at_call 23; refine (dev_any _ _ _).mono ?_; rintro e w' ⟨rfl, rfl⟩) | (go_at_call 39; refine (portAt_yes k hk _).mono ?_; rintro e w' ⟨rfl, rfl⟩)
  go_ret2
  exact ⟨rfl, rfl⟩
set_option maxHeartbeats 1000000 in
theorem told_none (a n : Int) (ha : U a) (hd : devB a = true) (hp : ¬ 0 ≤ prtI a) (h1 : ¬ (a = 61440 ∧ n = 8)) (h2 : ¬ (a = 61448 ∧ n = 8)) :
    Calls Try.prog 34 #[.pointer (some ⟨b, 0, none⟩), .int .u64 a, .int .i64 n] w fun e w' => e = .returned (.tuple #[.int .u64 0, .bool false]) ∧ w' = w := by
  have hno := portAt_no (b := b) a ha hp
  by_cases e1 : a = 61440
  · have n1 : (n == 8) = false := beq_eq_false_iff_ne.2 (fun e => h1 ⟨e1, e⟩)
    subst e1
    clear h1 h2 hp
    go_enter Try.func34, Try.ntmps34
    go_wp2_with first | (go_at_call 23; refine (dev_any _ _ _).mono ?_; rintro e w' ⟨rfl, rfl⟩) | (go_at_call 39; refine (hno _).mono ?_; rintro e w' ⟨rfl, rfl⟩)
    go_ret2
    exact ⟨rfl, rfl⟩
  · have n1 : (a == 61440) = false := beq_eq_false_iff_ne.2 e1
    by_cases e2 : a = 61448
    · have n2 : (n == 8) = false := beq_eq_false_iff_ne.2 (fun e => h2 ⟨e2, e⟩)
      subst e2
      clear h1 h2 hp e1
      go_enter Try.func34, Try.ntmps34
      go_wp2_with first | (go_at_call 23; refine (dev_any _ _ _).mono ?_; rintro e w' ⟨rfl, rfl⟩) | (go_at_call 39; refine (hno _).mono ?_; rintro e w' ⟨rfl, rfl⟩)
      go_ret2
      exact ⟨rfl, rfl⟩
    · have n2 : (a == 61448) = false := beq_eq_false_iff_ne.2 e2
      clear h1 h2 hp e1 e2
      go_enter Try.func34, Try.ntmps34
      go_wp2_with first | (go_at_call 23; refine (dev_any _ _ _).mono ?_; rintro e w' ⟨rfl, rfl⟩) | (go_at_call 39; refine (hno _).mono ?_; rintro e w' ⟨rfl, rfl⟩)
      go_ret2
      exact ⟨rfl, rfl⟩
theorem told_any (a n : Int) (ha : U a) (h : BusC w b p q F M) :
    Calls Try.prog 34 #[.pointer (some ⟨b, 0, none⟩), .int .u64 a, .int .i64 n] w fun e w' => e = .returned (.tuple #[.int .u64 (rdV M a n), .bool (rdB a n)]) ∧ BusAt w' b p q (rdN M a n) ∧ Only (fun i => i = b ∨ i = q) w w' := by
  by_cases hd : devB a = true
  · have hc := dev_far (n := n) hd
    by_cases hp : 0 ≤ prtI a
    · obtain ⟨k, hk, e, rfl⟩ := prt_yes hp
      by_cases hn : n = 1
      · subst hn
        have hV : rdV M (61696 + 256 * (k : Int)) 1 = (M.P k).first := by
          unfold rdV
          rw [if_neg hc, if_neg (by omega), if_neg (by omega), if_pos ⟨hp, rfl⟩, e, Int.toNat_natCast]
        have hB : rdB (61696 + 256 * (k : Int)) 1 = true := by unfold rdB; exact decide_eq_true (.inr (.inr (.inr ⟨hp, rfl⟩)))
        have hN : rdN M (61696 + 256 * (k : Int)) 1 = ⟨M.t, M.a, upd M.P k (M.P k).take, M.B⟩ := by unfold rdN; rw [if_pos ⟨hp, rfl⟩, e, Int.toNat_natCast]
        rw [hV, hB, hN]
        exact told_port k hk h
      · have hV : rdV M (61696 + 256 * (k : Int)) n = 0 := by
          unfold rdV
          rw [if_neg hc, if_neg (by omega), if_neg (by omega), if_neg (fun x => hn x.2)]
        have hB : rdB (61696 + 256 * (k : Int)) n = false := by unfold rdB; exact decide_eq_false (by rintro (x | x | x | x); exact hc x; omega; omega; exact hn x.2)
        have hN : rdN M (61696 + 256 * (k : Int)) n = M := by unfold rdN; rw [if_neg (fun x => hn x.2)]
        rw [hV, hB, hN]
        exact (told_nport k hk n hn h).mono fun _ _ ⟨h1, h2⟩ => ⟨h1, h2 ▸ h.at, h2 ▸ Only.refl _ _⟩
    · have hN : rdN M a n = M := by unfold rdN; rw [if_neg (fun x => hp x.1)]
      rw [hN]
      by_cases h1 : a = 61440 ∧ n = 8
      · obtain ⟨rfl, rfl⟩ := h1
        have hV : rdV M 61440 8 = M.t := by unfold rdV; rw [if_neg hc, if_pos ⟨rfl, rfl⟩]
        have hB : rdB 61440 8 = true := by decide
        rw [hV, hB]
        exact (told_time h).mono fun _ _ ⟨h1, h2⟩ => ⟨h1, h2 ▸ h.at, h2 ▸ Only.refl _ _⟩
      · by_cases h2 : a = 61448 ∧ n = 8
        · obtain ⟨rfl, rfl⟩ := h2
          have hV : rdV M 61448 8 = M.a := by unfold rdV; rw [if_neg hc, if_neg h1, if_pos ⟨rfl, rfl⟩]
          have hB : rdB 61448 8 = true := by decide
          rw [hV, hB]
          exact (told_alarm h).mono fun _ _ ⟨h1, h2⟩ => ⟨h1, h2 ▸ h.at, h2 ▸ Only.refl _ _⟩
        · have hV : rdV M a n = 0 := by unfold rdV; rw [if_neg hc, if_neg h1, if_neg h2, if_neg (fun x => hp x.1)]
          have hB : rdB a n = false := by unfold rdB; exact decide_eq_false (by rintro (x | x | x | x); exact hc x; exact h1 x; exact h2 x; exact hp x.1)
          rw [hV, hB]
          exact (told_none a n ha hd hp h1 h2).mono fun _ _ ⟨h1, h2⟩ => ⟨h1, h2 ▸ h.at, h2 ▸ Only.refl _ _⟩
  · exact told_mem a n ha hd h
set_option maxHeartbeats 1000000 in
theorem count_any (h : BusC w b p q F M) :
    Calls Try.prog 35 #[.pointer (some ⟨b, 527, none⟩), .int .u64 1] w fun e w' => (∃ r : Int, e = .returned (.int .u64 r)) ∧ BusAt w' b p q M ∧ Only (fun i => i = b ∨ i = q) w w' := by
  obtain ⟨r, hr⟩ := h.f.reads
  have c : w.cell? ⟨b, 527, none⟩ = some (.int .u64 r) := by rw [h.row.cell (by omega), hr]
  have fz := h.row.frozen 527
  have ha := run_call_add (P := Try.prog) (w := w) Try.func52 (by kernel_rfl) (by kernel_rfl) (by kernel_rfl) .u64 (by kernel_rfl) (y := 1) (s := IntKind.u64.wrap (r + 1)) c fz (by simp [go_sem])
  have hpost : ∀ x : Int, BusAt (w.setCell ⟨b, 527, none⟩ (.int .u64 x)) b p q M := fun x => by
    refine ⟨_, h.row.set 527 _, ⟨?_, ?_, ?_, fun k hk => ?_, x, ?_⟩, h.m.carry ((Only.refl (fun i => i = b) w).setCell rfl _) (Ne.symm h.bp) (Ne.symm h.bq), h.bp, h.bq⟩
    · rw [if_neg (by omega)]; exact h.f.mem
    · rw [if_neg (by omega)]; exact h.f.time
    · rw [if_neg (by omega)]; exact h.f.alarm
    · exact (h.f.port k hk).congr fun i h1 h2 => if_neg (by omega)
    · rw [if_pos rfl]
  clear h
  go_enter Try.func35, Try.ntmps35
  go_wp2
  go_ret
  exact ⟨⟨_, rfl⟩, hpost _, (Only.refl (fun i => i = b ∨ i = q) w).setCell (.inl rfl) _⟩
set_option maxHeartbeats 1000000 in
theorem bread_any (a n : Int) (ha : U a) (h : BusAt w b p q M) :
    Calls Try.prog 13 #[.pointer (some ⟨b, 0, none⟩), .int .u64 a, .int .i64 n] w fun e w' => e = .returned (.tuple #[.int .u64 (rdV M a n), .bool (rdB a n)]) ∧ BusAt w' b p q (rdN M a n) ∧ Only (fun i => i = b ∨ i = q) w w' := by
  obtain ⟨F, h⟩ := h
  go_enter Try.func13, Try.ntmps13
  go_wp2_with fail
  refine (told_any a n ha h).mono ?_
  rintro e w1 ⟨rfl, ⟨F1, h1⟩, g1⟩
  cases hb : rdB a n
  · go_wp2
    go_ret2
    exact ⟨by rw [hb]; rfl, h1.at, g1⟩
  · go_wp2_with fail
    refine (count_any h1).mono ?_
    rintro e w2 ⟨⟨r, rfl⟩, h2, g2⟩
    go_wp2
    go_ret2
    exact ⟨by rw [hb]; rfl, h2, g1.trans g2⟩
end
end Go.Proofs.Ytpnlicklfemjeaa
