/-
  What statement BusMemory asks: walked for every argument.
-/
import Derived.Test.YtpnlicklfemjeaaBLaws
namespace Go.Proofs.Ytpnlicklfemjeaa
open Go.RowKit
/-- A bus of one's own memory, and a copy of it. -/
structure MemTwo (W w : World) (b p q lo hi c : Nat) (M N : BusM) : Prop where
  m : BusAt w b p q M
  c : PB lo hi w c N
  k : Kept W w
  hb : W.heap.size ≤ b ∧ b < lo
  hp : W.heap.size ≤ p ∧ p < lo
  hq : W.heap.size ≤ q ∧ q < lo
section
variable {W w : World} {b p q lo hi c : Nat} {M N : BusM}
theorem MemTwo.kept {w' : World} (h : MemTwo W w b p q lo hi c M N) (g : Kept w w') : MemTwo W w' b p q lo hi c M N :=
  ⟨h.m.kept g, h.c.kept g, h.k.then g, h.hb, h.hp, h.hq⟩
theorem MemTwo.own {w' : World} {M' : BusM} (h : MemTwo W w b p q lo hi c M N) (hm : BusAt w' b p q M') (g : Only (fun i => i = b ∨ i = q) w w') : MemTwo W w' b p q lo hi c M' N :=
  ⟨hm, h.c.carry g fun i hi e => by unfold Rng at hi; have := h.hb; have := h.hq; omega, h.k.new g fun i e => by have := h.hb; have := h.hq; omega, h.hb, h.hp, h.hq⟩
theorem mt_read (h : MemTwo W w b p q lo hi c M N) (a n : Int) (ha : U a) :
    Calls Try.prog 13 #[.pointer (some ⟨b, 0, none⟩), .int .u64 a, .int .i64 n] w fun e w' => e = .returned (.tuple #[.int .u64 (rdV M a n), .bool (rdB a n)]) ∧ MemTwo W w' b p q lo hi c (rdN M a n) N :=
  (bread_any a n ha h.m).mono fun _ _ ⟨h1, h2, h3⟩ => ⟨h1, h.own h2 h3⟩
theorem mt_write (h : MemTwo W w b p q lo hi c M N) (a n v : Int) (ha : U a) :
    Calls Try.prog 15 #[.pointer (some ⟨b, 0, none⟩), .int .u64 a, .int .i64 n, .int .u64 v] w fun e w' => e = .returned (.bool (wrB a n)) ∧ MemTwo W w' b p q lo hi c (wrN M a n v) N :=
  (bwrite_any a n v ha h.m).mono fun _ _ ⟨h1, h2, h3⟩ => ⟨h1, h.own h2 h3⟩
theorem mt_cread (h : MemTwo W w b p q lo hi c M N) (a n : Int) (ha : U a) :
    Calls Try.prog 13 #[.pointer (some ⟨c, 0, none⟩), .int .u64 a, .int .i64 n] w fun e w' => e = .returned (.tuple #[.int .u64 (rdV N a n), .bool (rdB a n)]) ∧ MemTwo W w' b p q lo hi c M (rdN N a n) :=
  (bread_in h.c a n ha).mono fun _ _ ⟨h1, h2, h3⟩ => ⟨h1, ⟨h.m.carry h3 (fun e => by unfold Rng at e; have := h.hb; omega) (fun e => by unfold Rng at e; have := h.hp; omega) (fun e => by unfold Rng at e; have := h.hq; omega), h2, h.k.own (by have := h.hb; omega) h3, h.hb, h.hp, h.hq⟩⟩
end
def mM (B : Nat → Int) : BusM := .new B
theorem U_not (v : Int) : U (bits .xor .u64 IntKind.u64.max v) := U_wrap _
theorem rd_mB (B : Nat → Int) (A : Nat) (v : Int) (hv : U v) (hA : codeI (A : Int) 8 = 0) : rdZ (wrZ B (A : Int) 8 v) (A : Int) 8 = v := by
  have e1 : wrZ B (A : Int) 8 v = wrF B A 8 v := wrZ_yes (N := 8) hA
  have e2 := rdZ_yes (B := wrF B A 8 v) (N := 8) hA
  have e3 := rd_wr B A 8 v 8 0 (by omega)
  have h0 := hv.1
  have h1 := hv.2
  rw [e1]
  refine e2.trans (e3.trans ?_)
  rw [Int.pow_zero, Int.ediv_one]
  exact Int.emod_eq_of_lt h0 h1
def mW (A : Nat) (v : Int) : Nat → Int := wrZ (fun _ => 0) (A : Int) 8 v
def mV (A : Nat) (v : Int) : Nat → Int := wrZ (mW A v) (A : Int) 8 (bits .xor .u64 IntKind.u64.max v)
theorem mm_v1 {A : Nat} {v : Int} (hv : U v) (hcode : codeI (A : Int) 8 = 0) (hndev : ¬ devB (A : Int) = true) : rdV (mM (mW A v)) (A : Int) 8 = v := by rw [(rd_mem hndev).1]; exact rd_mB _ A v hv hcode
theorem mm_n1 {A : Nat} {v : Int} (hndev : ¬ devB (A : Int) = true) : rdN (mM (mW A v)) (A : Int) 8 = mM (mW A v) := (rd_mem hndev).2.2
theorem mm_w1 {A : Nat} {v : Int} (hndev : ¬ devB (A : Int) = true) : wrN (mM (mW A v)) (A : Int) 8 (bits .xor .u64 IntKind.u64.max v) = mM (mV A v) := (wr_mem hndev).2
theorem mm_v2 {A : Nat} {v : Int} (hcode : codeI (A : Int) 8 = 0) : rdZ (mV A v) (A : Int) 8 = bits .xor .u64 IntKind.u64.max v := rd_mB _ A _ (U_not v) hcode
set_option maxRecDepth 10000 in
set_option maxHeartbeats 1000000 in
theorem bmemory_any (t v : Int) (t0 : 0 ≤ t) (t1 : t ≤ 65535) (hv : U v) (w : World) :
    Calls Try.prog 6 #[.int .u16 t, .int .u64 v] w fun e w' => e = .returned (.bool true) ∧ Kept w w' := by
  obtain ⟨x, hx⟩ : ∃ x : Nat, t % 32768 = x := ⟨(t % 32768).toNat, by omega⟩
  have he : bits .andNot .u64 (t % 32768) 7 = ((x - x % 8 : Nat) : Int) := by rw [hx]; exact and_not7 x (by omega)
  obtain ⟨A, hA⟩ : ∃ A : Nat, x - x % 8 = A := ⟨_, rfl⟩
  rw [hA] at he
  have hlt : A < 32768 := by omega
  have hm8 : (A : Int) % 8 = 0 := by omega
  have hU : U (A : Int) := by unfold U; omega
  have hcode : codeI (A : Int) 8 = 0 := code_0 (by omega) hm8 (by omega)
  have hdev : devB (A : Int) = false := decide_eq_false (by omega)
  have hndev : ¬ devB (A : Int) = true := by rw [hdev]; simp
  have hwt : IntKind.u64.wrap t = t := by rw [IntKind.wrap_u64]; omega
  have hrB : rdB (A : Int) 8 = true := decide_eq_true (.inl hcode)
  have hwB : wrB (A : Int) 8 = true := decide_eq_true (.inl hcode)
  clear hx hA
  go_enter Try.func6, Try.ntmps6
  go_wp2_with fail
  refine (known7_any w).mono ?_
  rintro e w0 ⟨rfl, s0⟩
  go_wp2_with fail
  refine (mnew_any w0).mono ?_
  rintro e w1 ⟨p, q, rfl, hm1, hp1, hq1, kk1⟩
  have g1 := s0.then kk1
  go_wp2_with fail
  refine (mwrite_any _ _ _ hU _ p q _ hm1).mono ?_
  rintro e w2 ⟨rfl, hm2, kk2⟩
  have z0 := s0.size
  have g2 : Kept w w2 := g1.new kk2 (fun i hi => by omega)
  go_wp2_with fail
  refine (bnew_of w2 p q _ hm2).mono ?_
  rintro e w3 ⟨b, rfl, hb3, hbs, kk3⟩
  have g3 := g2.then kk3
  have hl3 := hb3.lt
  rw [show BusM.new (wrZ (fun _ => 0) (A : Int) 8 v) = mM (mW A v) from rfl] at hb3
  go_wp2_with fail
  refine (bcopy_any hb3).mono ?_
  rintro e w4 ⟨c, pc, qc, rfl, hc4, hc1, hc2, hc3, kk4⟩
  have z2 := g2.size
  have hl4 := hc4.lt
  have s4 : MemTwo w w4 b p q w3.heap.size w4.heap.size c (mM (mW A v)) (mM (mW A v)) :=
    ⟨hb3.kept kk4, ⟨⟨pc, qc, hc4, ⟨hc2, hl4.2.1⟩, ⟨hc3, hl4.2.2⟩⟩, ⟨hc1, hl4.1⟩⟩, g3.then kk4, by omega, by omega, by omega⟩
  clear hm1 hp1 hq1 kk1 g1 hm2 kk2 z0 g2 hb3 hbs kk3 g3 hc4 hc1 hc2 hc3 kk4 z2 hl4 hl3 s0
  go_wp2_with fail
  refine (mt_read s4 _ _ hU).mono ?_
  rintro e w5 ⟨rfl, s5⟩
  rw [mm_n1 hndev] at s5
  rw [mm_v1 hv hcode hndev, hrB]
  go_wp2_with fail
  refine (mt_write s5 _ _ _ hU).mono ?_
  rintro e w6 ⟨rfl, s6⟩
  rw [mm_w1 hndev] at s6
  rw [hwB]
  go_wp2_with fail
  refine (bmem_any s6.m).mono ?_
  rintro e w7 ⟨rfl, rfl⟩
  go_wp2_with fail
  obtain ⟨F6, h6⟩ := s6.m
  refine (mread_any _ _ hU _ p q _ h6.m).mono ?_
  rintro e w8 ⟨rfl, kk8⟩
  have s8 := s6.kept kk8
  rw [show (mM (mV A v)).B = mV A v from rfl, mm_v2 hcode, hcode]
  go_wp2_with fail
  refine (mt_cread s8 _ _ hU).mono ?_
  rintro e w9 ⟨rfl, s9⟩
  rw [mm_v1 hv hcode hndev, hrB]
  go_wp2_with fail
  refine (dev_any _ _ _).mono ?_
  rintro e w10 ⟨rfl, rfl⟩
  rw [hdev]
  go_wp2
  go_ret
  exact ⟨rfl, s9.k⟩
end Go.Proofs.Ytpnlicklfemjeaa
