/-
  The calls of package bus, handed on from one to the next: each bus has its blocks within bounds of its own, so that two of them never share one.
-/
import Derived.Test.YtpnlicklfemjeaaTCopy
namespace Go.Proofs.Ytpnlicklfemjeaa
open Go.RowKit
def Rng (lo hi : Nat) : Nat → Prop := fun i => lo ≤ i ∧ i < hi
/-- A bus of package bus, all of whose blocks lie from lo on and below hi. -/
structure PB (lo hi : Nat) (w : World) (b : Nat) (M : BusM) : Prop where
  ex : ∃ p q, BusAt w b p q M ∧ Rng lo hi p ∧ Rng lo hi q
  b : Rng lo hi b
section
variable {lo hi : Nat} {w w' : World} {b : Nat} {M : BusM}
theorem PB.carry {S : Nat → Prop} (h : PB lo hi w b M) (g : Only S w w') (hs : ∀ i, Rng lo hi i → ¬ S i) : PB lo hi w' b M := by
  obtain ⟨⟨p, q, hb, hp, hq⟩, hr⟩ := h
  exact ⟨⟨p, q, hb.carry g (hs _ hr) (hs _ hp) (hs _ hq), hp, hq⟩, hr⟩
theorem PB.kept (h : PB lo hi w b M) (g : Kept w w') : PB lo hi w' b M := h.carry g fun _ _ => id
theorem PB.apart {lo' hi' : Nat} (h : PB lo hi w b M) (g : Only (Rng lo' hi') w w') (hd : hi ≤ lo' ∨ hi' ≤ lo) : PB lo hi w' b M :=
  h.carry g fun i h1 h2 => by unfold Rng at h1 h2; omega
theorem bread_in (h : PB lo hi w b M) (a n : Int) (ha : U a) :
    Calls Try.prog 13 #[.pointer (some ⟨b, 0, none⟩), .int .u64 a, .int .i64 n] w fun e w' => e = .returned (.tuple #[.int .u64 (rdV M a n), .bool (rdB a n)]) ∧ PB lo hi w' b (rdN M a n) ∧ Only (Rng lo hi) w w' := by
  obtain ⟨⟨p, q, hb, hp, hq⟩, hr⟩ := h
  exact (bread_any a n ha hb).mono fun _ _ ⟨h1, h2, h3⟩ => ⟨h1, ⟨⟨p, q, h2, hp, hq⟩, hr⟩, h3.mono fun i hi => hi.elim (fun e => e ▸ hr) (fun e => e ▸ hq)⟩
theorem bwrite_in (h : PB lo hi w b M) (a n v : Int) (ha : U a) :
    Calls Try.prog 15 #[.pointer (some ⟨b, 0, none⟩), .int .u64 a, .int .i64 n, .int .u64 v] w fun e w' => e = .returned (.bool (wrB a n)) ∧ PB lo hi w' b (wrN M a n v) ∧ Only (Rng lo hi) w w' := by
  obtain ⟨⟨p, q, hb, hp, hq⟩, hr⟩ := h
  exact (bwrite_any a n v ha hb).mono fun _ _ ⟨h1, h2, h3⟩ => ⟨h1, ⟨⟨p, q, h2, hp, hq⟩, hr⟩, h3.mono fun i hi => hi.elim (fun e => e ▸ hr) (fun e => e ▸ hq)⟩
theorem btype_in (h : PB lo hi w b M) (i : Int) (s : ByteArray) :
    Calls Try.prog 17 #[.pointer (some ⟨b, 0, none⟩), .int .i64 i, .string s] w fun e w' => e = .returned (.tuple #[]) ∧ PB lo hi w' b (typN M i s.data.toList) ∧ Only (Rng lo hi) w w' := by
  obtain ⟨⟨p, q, hb, hp, hq⟩, hr⟩ := h
  exact (btype_any i s hb).mono fun _ _ ⟨h1, h2, h3⟩ => ⟨h1, ⟨⟨p, q, h2, hp, hq⟩, hr⟩, h3.mono fun i hi => hi.elim (fun e => e ▸ hr) (fun e => e ▸ hq)⟩
theorem bset_in (h : PB lo hi w b M) (t : Int) :
    Calls Try.prog 19 #[.pointer (some ⟨b, 0, none⟩), .int .u64 t] w fun e w' => e = .returned (.tuple #[]) ∧ PB lo hi w' b ⟨t, M.a, M.P, M.B⟩ ∧ Only (Rng lo hi) w w' := by
  obtain ⟨⟨p, q, hb, hp, hq⟩, hr⟩ := h
  exact (bset_any t hb).mono fun _ _ ⟨h1, h2, h3⟩ => ⟨h1, ⟨⟨p, q, h2, hp, hq⟩, hr⟩, h3.mono fun i hi => hi.elim (fun e => e ▸ hr) (fun e => e ▸ hq)⟩
theorem bout_in (h : PB lo hi w b M) (i : Int) :
    Calls Try.prog 20 #[.pointer (some ⟨b, 0, none⟩), .int .i64 i] w fun e w' => e = .returned (.string (outS M i)) ∧ Kept w w' := by
  obtain ⟨⟨p, q, hb, hp, hq⟩, hr⟩ := h
  exact bout_any i hb
theorem btimer_in (h : PB lo hi w b M) :
    Calls Try.prog 21 #[.pointer (some ⟨b, 0, none⟩)] w fun e w' => e = .returned (.bool (timB M)) ∧ Kept w w' := by
  obtain ⟨⟨p, q, hb, hp, hq⟩, hr⟩ := h
  exact btimer_any hb
theorem bnew_in (w : World) :
    Calls Try.prog 9 #[.pointer none] w fun e w' => ∃ b, e = .returned (.pointer (some ⟨b, 0, none⟩)) ∧ PB w.heap.size w'.heap.size w' b (.new (fun _ => 0)) ∧ Kept w w' :=
  (bnew_any w).mono fun _ _ ⟨b, p, q, h1, h2, h3, h4, h5, h6⟩ => ⟨b, h1, ⟨⟨p, q, h2, ⟨h4, h2.lt.2.1⟩, ⟨h5, h2.lt.2.2⟩⟩, ⟨h3, h2.lt.1⟩⟩, h6⟩
theorem bcopy_in (h : PB lo hi w b M) :
    Calls Try.prog 12 #[.pointer (some ⟨b, 0, none⟩)] w fun e w' => ∃ c, e = .returned (.pointer (some ⟨c, 0, none⟩)) ∧ PB w.heap.size w'.heap.size w' c M ∧ Kept w w' := by
  obtain ⟨⟨p, q, hb, hp, hq⟩, hr⟩ := h
  exact (bcopy_any hb).mono fun _ _ ⟨b, p, q, h1, h2, h3, h4, h5, h6⟩ => ⟨b, h1, ⟨⟨p, q, h2, ⟨h4, h2.lt.2.1⟩, ⟨h5, h2.lt.2.2⟩⟩, ⟨h3, h2.lt.1⟩⟩, h6⟩
end
/-- A bus that the call itself made; of what was there nothing has turned. -/
structure OneB (W w : World) (b : Nat) (M : BusM) : Prop where
  p : ∃ hi, PB W.heap.size hi w b M
  k : Kept W w
section
variable {W w : World} {b : Nat} {M : BusM}
theorem Kept.own {lo hi : Nat} {w' : World} (k : Kept W w) (h : W.heap.size ≤ lo) (g : Only (Rng lo hi) w w') : Kept W w' := k.new g fun i hi => by unfold Rng at hi; omega
theorem OneB.kept {w' : World} (h : OneB W w b M) (g : Kept w w') : OneB W w' b M := by
  obtain ⟨⟨hi, hp⟩, k⟩ := h
  exact ⟨⟨hi, hp.kept g⟩, k.then g⟩
theorem one_new (h : Kept W w) :
    Calls Try.prog 9 #[.pointer none] w fun e w' => ∃ b, e = .returned (.pointer (some ⟨b, 0, none⟩)) ∧ OneB W w' b (.new (fun _ => 0)) :=
  (bnew_in w).mono fun _ _ ⟨b, h1, h2, h3⟩ => by
    obtain ⟨⟨p, q, hb, hp, hq⟩, hr⟩ := h2
    have hs := h.size
    exact ⟨b, h1, ⟨_, ⟨⟨p, q, hb, ⟨Nat.le_trans hs hp.1, hp.2⟩, ⟨Nat.le_trans hs hq.1, hq.2⟩⟩, ⟨Nat.le_trans hs hr.1, hr.2⟩⟩⟩, h.then h3⟩
theorem one_read (h : OneB W w b M) (a n : Int) (ha : U a) :
    Calls Try.prog 13 #[.pointer (some ⟨b, 0, none⟩), .int .u64 a, .int .i64 n] w fun e w' => e = .returned (.tuple #[.int .u64 (rdV M a n), .bool (rdB a n)]) ∧ OneB W w' b (rdN M a n) := by
  obtain ⟨⟨hi, hp⟩, k⟩ := h
  exact (bread_in hp a n ha).mono fun _ _ ⟨h1, h2, h3⟩ => ⟨h1, ⟨hi, h2⟩, k.own (Nat.le_refl _) h3⟩
theorem one_write (h : OneB W w b M) (a n v : Int) (ha : U a) :
    Calls Try.prog 15 #[.pointer (some ⟨b, 0, none⟩), .int .u64 a, .int .i64 n, .int .u64 v] w fun e w' => e = .returned (.bool (wrB a n)) ∧ OneB W w' b (wrN M a n v) := by
  obtain ⟨⟨hi, hp⟩, k⟩ := h
  exact (bwrite_in hp a n v ha).mono fun _ _ ⟨h1, h2, h3⟩ => ⟨h1, ⟨hi, h2⟩, k.own (Nat.le_refl _) h3⟩
theorem one_type (h : OneB W w b M) (i : Int) (s : ByteArray) :
    Calls Try.prog 17 #[.pointer (some ⟨b, 0, none⟩), .int .i64 i, .string s] w fun e w' => e = .returned (.tuple #[]) ∧ OneB W w' b (typN M i s.data.toList) := by
  obtain ⟨⟨hi, hp⟩, k⟩ := h
  exact (btype_in hp i s).mono fun _ _ ⟨h1, h2, h3⟩ => ⟨h1, ⟨hi, h2⟩, k.own (Nat.le_refl _) h3⟩
theorem one_set (h : OneB W w b M) (t : Int) :
    Calls Try.prog 19 #[.pointer (some ⟨b, 0, none⟩), .int .u64 t] w fun e w' => e = .returned (.tuple #[]) ∧ OneB W w' b ⟨t, M.a, M.P, M.B⟩ := by
  obtain ⟨⟨hi, hp⟩, k⟩ := h
  exact (bset_in hp t).mono fun _ _ ⟨h1, h2, h3⟩ => ⟨h1, ⟨hi, h2⟩, k.own (Nat.le_refl _) h3⟩
theorem one_out (h : OneB W w b M) (i : Int) :
    Calls Try.prog 20 #[.pointer (some ⟨b, 0, none⟩), .int .i64 i] w fun e w' => e = .returned (.string (outS M i)) ∧ OneB W w' b M := by
  obtain ⟨⟨hi, hp⟩, k⟩ := id h
  exact (bout_in hp i).mono fun _ _ ⟨h1, h2⟩ => ⟨h1, h.kept h2⟩
theorem one_timer (h : OneB W w b M) :
    Calls Try.prog 21 #[.pointer (some ⟨b, 0, none⟩)] w fun e w' => e = .returned (.bool (timB M)) ∧ OneB W w' b M := by
  obtain ⟨⟨hi, hp⟩, k⟩ := id h
  exact (btimer_in hp).mono fun _ _ ⟨h1, h2⟩ => ⟨h1, h.kept h2⟩
theorem one_dev (h : OneB W w b M) (a : Int) :
    Calls Try.prog 23 #[.pointer (some ⟨b, 0, none⟩), .int .u64 a] w fun e w' => e = .returned (.bool (devB a)) ∧ OneB W w' b M :=
  (dev_any a _ w).mono fun _ _ ⟨h1, h2⟩ => ⟨h1, h2 ▸ h⟩
end
theorem U_lit {n : Int} (h : (decide (0 ≤ n) && decide (n < 18446744073709551616)) = true) : U n := by
  unfold U; simpa using h
end Go.Proofs.Ytpnlicklfemjeaa
