/-
  What is written to the document's bus (Write of the reference): walked whole, for every argument.
-/
import Derived.Test.YtpnlicklfemjeaaRefBus3
namespace Go.Proofs.Ytpnlicklfemjeaa
open Go.RowKit
section
variable {w : World} {b p q : Nat} {M : BusM}
set_option maxHeartbeats 1000000 in
theorem rbwrite_mem (a n v : Int) (ha : U a) (hv : U v) (hc : codeI a n = 0) (h : RefBus w b p q M) :
    Calls Try.prog 16 #[.pointer (some ⟨b, 0, none⟩), .int .u64 a, .int .i64 n, .int .u64 v] w fun e w' => e = .returned (.bool true) ∧ RefBus w' b p q ⟨M.t, M.a, M.P, wrZ M.B a n v⟩ ∧ Only (fun i => i = b ∨ i = q) w w' := by
  have c0 := h.c0
  obtain ⟨A, N, rfl, rfl, hn, hA⟩ := code_fits ha.1 hc
  have hz : wrZ M.B (A : Int) (N : Int) v = wrF M.B A N v := by unfold wrZ; rw [if_pos hc, Int.toNat_natCast, Int.toNat_natCast]
  rw [hz]
  go_enter Try.func16, Try.ntmps16
  go_wp2_with fail
  refine (rcode_any _ _ ha _ p q M.B h.m).mono ?_
  rintro e w1 ⟨rfl, k1⟩
  have h1 := h.kept k1
  have c0' := h1.c0
  rw [hc]
  go_wp2_with fail
  refine (rwrite_any A N v hv (by omega) hA _ p q M.B h1.m).mono ?_
  rintro e w2 ⟨rfl, hm, k2⟩
  go_wp2
  go_ret
  exact ⟨rfl, ⟨h1.row.of_block (k2.same b h1.row.lt h.bq), hm, h.bp, h.bq, ⟨h.ok.t, h.ok.a, h.ok.P⟩⟩, Kept.then k1 (k2.mono fun _ e => .inr e)⟩
theorem RefBus.set2 (h : RefBus w b p q M) (v : Int) (hv : U v) : RefBus (w.setCell ⟨b, 2, none⟩ (.int .u64 v)) b p q ⟨M.t, v, M.P, M.B⟩ ∧ Only (fun i => i = b ∨ i = q) w (w.setCell ⟨b, 2, none⟩ (.int .u64 v)) := by
  refine h.to ((Only.refl (fun i => i = b) w).setCell (x := ⟨b, 2, none⟩) rfl (.int .u64 v)) (M' := ⟨M.t, v, M.P, M.B⟩) ((h.row.set 2 _).congr fun j hj => ?_) rfl ⟨h.ok.t, hv, h.ok.P⟩
  by_cases e : j = 2
  · rw [if_pos e, e]; rfl
  · rw [if_neg e]; unfold refF; rw [if_neg e, if_neg e]
theorem RefBus.set1 (h : RefBus w b p q M) (v : Int) (hv : U v) : RefBus (w.setCell ⟨b, 1, none⟩ (.int .u64 v)) b p q ⟨v, M.a, M.P, M.B⟩ ∧ Only (fun i => i = b ∨ i = q) w (w.setCell ⟨b, 1, none⟩ (.int .u64 v)) := by
  refine h.to ((Only.refl (fun i => i = b) w).setCell (x := ⟨b, 1, none⟩) rfl (.int .u64 v)) (M' := ⟨v, M.a, M.P, M.B⟩) ((h.row.set 1 _).congr fun j hj => ?_) rfl ⟨hv, h.ok.a, h.ok.P⟩
  by_cases e : j = 1
  · rw [if_pos e, e]; rfl
  · rw [if_neg e]; unfold refF; rw [if_neg e, if_neg e]
set_option maxHeartbeats 1000000 in
theorem rbwrite_alarm (v : Int) (hv : U v) (h : RefBus w b p q M) :
    Calls Try.prog 16 #[.pointer (some ⟨b, 0, none⟩), .int .u64 61448, .int .i64 8, .int .u64 v] w fun e w' => e = .returned (.bool true) ∧ RefBus w' b p q ⟨M.t, v, M.P, M.B⟩ ∧ Only (fun i => i = b ∨ i = q) w w' := by
  have c0 := h.c0
  have hu : U 61448 := by unfold U; omega
  have hcode : codeI 61448 8 = 60 := by decide
  go_enter Try.func16, Try.ntmps16
  go_wp2_with fail
  refine (rcode_any _ _ hu _ p q M.B h.m).mono ?_
  rintro e w1 ⟨rfl, k1⟩
  have h1 := h.kept k1
  have c2 := h1.c2
  have c15 := h1.c15
  have fz := h1.row.frozen 2
  have hpost := h1.set2 v hv
  rw [hcode]
  go_wp2_with (go_at_call 38; refine (rport_any _ hu _).mono ?_; rintro e w' ⟨rfl, rfl⟩)
  go_ret
  exact ⟨rfl, hpost.1, Kept.then k1 hpost.2⟩
set_option maxRecDepth 10000 in
set_option maxHeartbeats 1000000 in
theorem rbwrite_port (k : Nat) (hk : k < 4) (v : Int) (h : RefBus w b p q M) :
    Calls Try.prog 16 #[.pointer (some ⟨b, 0, none⟩), .int .u64 (61696 + 256 * (k : Int)), .int .i64 1, .int .u64 v] w fun e w' => e = .returned (.bool true) ∧ RefBus w' b p q ⟨M.t, M.a, upd M.P k ((M.P k).put (u8 v)), M.B⟩ ∧ Only (fun i => i = b ∨ i = q) w w' := by
  have c0 := h.c0
  have hu : U (61696 + 256 * (k : Int)) := by unfold U; omega
  have hcode : codeI (61696 + 256 * (k : Int)) 1 = 60 := code_60 (.inl rfl) (by omega) (by omega)
  have hprt := prt_at k hk
  have n2 : (61696 + 256 * (k : Int) == 61448) = false := beq_eq_false_iff_ne.2 (by omega)
  have l0 : (0 : Int) ≤ (k : Int) := by omega
  have hw : IntKind.u8.wrap v = ((u8 v).toNat : Int) := by rw [u8_val, IntKind.wrap_u8]
  go_enter Try.func16, Try.ntmps16
  go_wp2_with fail
  refine (rcode_any _ _ hu _ p q M.B h.m).mono ?_
  rintro e w1 ⟨rfl, k1⟩
  have h1 := h.kept k1
  have c15 := h1.c15
  rw [hcode]
  go_wp2_with first | (go_at_call 38; refine (rport_any _ hu _).mono ?_; rintro e w' ⟨rfl, rfl⟩; rw [hprt]) | (go_at_call 42; refine (rput_any k hk (u8 v) h1).mono ?_; rintro e w' ⟨rfl, hto, k2⟩)
  go_ret
  exact ⟨rfl, hto, Kept.then k1 k2⟩
set_option maxRecDepth 10000 in
set_option maxHeartbeats 1000000 in
theorem rbwrite_nport (k : Nat) (hk : k < 4) (n v : Int) (hn : ¬ n = 1) (h : RefBus w b p q M) :
    Calls Try.prog 16 #[.pointer (some ⟨b, 0, none⟩), .int .u64 (61696 + 256 * (k : Int)), .int .i64 n, .int .u64 v] w fun e w' => e = .returned (.bool false) ∧ Kept w w' := by
  have c0 := h.c0
  have hu : U (61696 + 256 * (k : Int)) := by unfold U; omega
  have hcode : (codeI (61696 + 256 * (k : Int)) n == 0) = false := beq_eq_false_iff_ne.2 (code_far (by omega))
  have hprt := prt_at k hk
  have n2 : (61696 + 256 * (k : Int) == 61448) = false := beq_eq_false_iff_ne.2 (by omega)
  have n3 : (n == 1) = false := beq_eq_false_iff_ne.2 hn
  have l0 : (0 : Int) ≤ (k : Int) := by omega
  go_enter Try.func16, Try.ntmps16
  go_wp2_with fail
  refine (rcode_any _ _ hu _ p q M.B h.m).mono ?_
  rintro e w1 ⟨rfl, k1⟩
  have c15 := (h.kept k1).c15
  go_wp2_with (go_at_call 38; refine (rport_any _ hu _).mono ?_; rintro e w' ⟨rfl, rfl⟩; rw [hprt])
  go_ret
  exact ⟨rfl, k1⟩
set_option maxRecDepth 10000 in
set_option maxHeartbeats 1000000 in
theorem rbwrite_none (a n v : Int) (ha : U a) (hc : ¬ codeI a n = 0) (hp : ¬ 0 ≤ prtI a) (h2 : ¬ (a = 61448 ∧ n = 8)) (h : RefBus w b p q M) :
    Calls Try.prog 16 #[.pointer (some ⟨b, 0, none⟩), .int .u64 a, .int .i64 n, .int .u64 v] w fun e w' => e = .returned (.bool false) ∧ Kept w w' := by
  have c0 := h.c0
  have hcode : (codeI a n == 0) = false := beq_eq_false_iff_ne.2 hc
  have hprt := (prt_no hp).1
  by_cases e2 : a = 61448
  · have n2 : (n == 8) = false := beq_eq_false_iff_ne.2 (fun e => h2 ⟨e2, e⟩)
    subst e2
    clear h2 hp hc
    go_enter Try.func16, Try.ntmps16
    go_wp2_with fail
    refine (rcode_any _ _ ha _ p q M.B h.m).mono ?_
    rintro e w1 ⟨rfl, k1⟩
    have c15 := (h.kept k1).c15
    go_wp2_with (go_at_call 38; refine (rport_any _ ha _).mono ?_; rintro e w' ⟨rfl, rfl⟩; rw [hprt])
    go_ret
    exact ⟨rfl, k1⟩
  · have n2 : (a == 61448) = false := beq_eq_false_iff_ne.2 e2
    clear h2 hp hc e2
    go_enter Try.func16, Try.ntmps16
    go_wp2_with fail
    refine (rcode_any _ _ ha _ p q M.B h.m).mono ?_
    rintro e w1 ⟨rfl, k1⟩
    have c15 := (h.kept k1).c15
    go_wp2_with (go_at_call 38; refine (rport_any _ ha _).mono ?_; rintro e w' ⟨rfl, rfl⟩; rw [hprt])
    go_ret
    exact ⟨rfl, k1⟩
theorem rbwrite_any (a n v : Int) (ha : U a) (hv : U v) (h : RefBus w b p q M) :
    Calls Try.prog 16 #[.pointer (some ⟨b, 0, none⟩), .int .u64 a, .int .i64 n, .int .u64 v] w fun e w' => e = .returned (.bool (wrB a n)) ∧ RefBus w' b p q (wrN M a n v) ∧ Only (fun i => i = b ∨ i = q) w w' := by
  have fin : ∀ (w' : World), Kept w w' → RefBus w' b p q M ∧ Only (fun i => i = b ∨ i = q) w w' := fun w' k => ⟨h.kept k, k.mono fun _ f => f.elim⟩
  by_cases hc : codeI a n = 0
  · have hB : wrB a n = true := by unfold wrB; exact decide_eq_true (.inl hc)
    have hN : wrN M a n v = ⟨M.t, M.a, M.P, wrZ M.B a n v⟩ := by unfold wrN; rw [if_pos hc]
    rw [hB, hN]
    exact rbwrite_mem a n v ha hv hc h
  · by_cases hp : 0 ≤ prtI a
    · obtain ⟨k, hk, e, rfl⟩ := prt_yes hp
      by_cases hn : n = 1
      · subst hn
        have hB : wrB (61696 + 256 * (k : Int)) 1 = true := by unfold wrB; exact decide_eq_true (.inr (.inr ⟨hp, rfl⟩))
        have hN : wrN M (61696 + 256 * (k : Int)) 1 v = ⟨M.t, M.a, upd M.P k ((M.P k).put (u8 v)), M.B⟩ := by unfold wrN; rw [if_neg hc, if_neg (by omega), if_pos ⟨hp, rfl⟩, e, Int.toNat_natCast]
        rw [hB, hN]
        exact rbwrite_port k hk v h
      · have hB : wrB (61696 + 256 * (k : Int)) n = false := by unfold wrB; exact decide_eq_false (by rintro (x | x | x); exact hc x; omega; exact hn x.2)
        have hN : wrN M (61696 + 256 * (k : Int)) n v = M := by unfold wrN; rw [if_neg hc, if_neg (by omega), if_neg (fun x => hn x.2)]
        rw [hB, hN]
        exact (rbwrite_nport k hk n v hn h).mono fun _ _ ⟨h1, h2⟩ => ⟨h1, fin _ h2⟩
    · by_cases h2 : a = 61448 ∧ n = 8
      · obtain ⟨rfl, rfl⟩ := h2
        have hB : wrB 61448 8 = true := by decide
        have hN : wrN M 61448 8 v = ⟨M.t, v, M.P, M.B⟩ := by unfold wrN; rw [if_neg hc, if_pos ⟨rfl, rfl⟩]
        rw [hB, hN]
        exact rbwrite_alarm v hv h
      · have hB : wrB a n = false := by unfold wrB; exact decide_eq_false (by rintro (x | x | x); exact hc x; exact h2 x; exact hp x.1)
        have hN : wrN M a n v = M := by unfold wrN; rw [if_neg hc, if_neg h2, if_neg (fun x => hp x.1)]
        rw [hB, hN]
        exact (rbwrite_none a n v ha hc hp h2 h).mono fun _ _ ⟨h1, h2⟩ => ⟨h1, fin _ h2⟩
end
end Go.Proofs.Ytpnlicklfemjeaa
