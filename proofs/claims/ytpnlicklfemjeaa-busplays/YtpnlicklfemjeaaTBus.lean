/-
  What package bus's calls do (the landed package's), read and written: walked whole, for every argument.
-/
import Derived.Test.YtpnlicklfemjeaaTPort2
import Derived.Test.YtpnlicklfemjeaaBusDoc
import Derived.Laws.LoneSync
namespace Go.Proofs.Ytpnlicklfemjeaa
open Go.RowKit
/-- The cells of a bus: its memory, time, alarm, four ports, a count of reads. -/
structure BusF (F : Nat → Value) (p : Nat) (M : BusM) : Prop where
  mem : F 0 = .pointer (some ⟨p, 0, none⟩)
  time : F 1 = .int .u64 M.t
  alarm : F 2 = .int .u64 M.a
  port : ∀ k, k < 4 → PortF F (3 + 131 * k) (M.P k)
  reads : ∃ r : Int, F 527 = .int .u64 r
/-- A bus of package bus: the object at block b, its memory's object at p, the memory's bytes at q. -/
structure BusC (w : World) (b p q : Nat) (F : Nat → Value) (M : BusM) : Prop where
  row : w.rowIs b 66 528 F
  f : BusF F p M
  m : ProgAt w p q M.B
  bp : b ≠ p
  bq : b ≠ q
def BusAt (w : World) (b p q : Nat) (M : BusM) : Prop := ∃ F, BusC w b p q F M
section
variable {w : World} {b p q : Nat} {F : Nat → Value} {M : BusM}
theorem BusC.c0 (h : BusC w b p q F M) : w.cell? ⟨b, 0, none⟩ = some (.pointer (some ⟨p, 0, none⟩)) := by rw [h.row.cell (by omega), h.f.mem]
theorem BusC.c1 (h : BusC w b p q F M) : w.cell? ⟨b, 1, none⟩ = some (.int .u64 M.t) := by rw [h.row.cell (by omega), h.f.time]
theorem BusC.c2 (h : BusC w b p q F M) : w.cell? ⟨b, 2, none⟩ = some (.int .u64 M.a) := by rw [h.row.cell (by omega), h.f.alarm]
theorem BusF.set {x : Prt} {k : Nat} (hk : k < 4) (h : BusF F p M) {G : Nat → Value} (hx : PortF G (3 + 131 * k) x) (e : ∀ i, ¬ (3 + 131 * k ≤ i ∧ i < 3 + 131 * k + 131) → G i = F i) : BusF G p ⟨M.t, M.a, upd M.P k x, M.B⟩ := by
  refine ⟨by rw [e 0 (by omega)]; exact h.mem, by rw [e 1 (by omega)]; exact h.time, by rw [e 2 (by omega)]; exact h.alarm, fun j hj => ?_, ?_⟩
  · show PortF G (3 + 131 * j) (upd M.P k x j)
    by_cases ej : j = k
    · subst ej; rw [upd_same]; exact hx
    · rw [upd_other _ _ ej]; exact (h.port j hj).congr fun i h1 h2 => e i (by omega)
  · obtain ⟨r, hr⟩ := h.reads; exact ⟨r, by rw [e 527 (by omega)]; exact hr⟩
/-- A port's call, seen from the bus. -/
theorem BusC.port_to {x : Prt} {k : Nat} (hk : k < 4) (h : BusC w b p q F M) {w' : World} (g : PortTo w w' b (3 + 131 * k) 528 66 F x) : BusAt w' b p q ⟨M.t, M.a, upd M.P k x, M.B⟩ ∧ Only (fun i => i = b ∨ i = q) w w' := by
  obtain ⟨G, hr, hx, he, ho⟩ := g
  exact ⟨⟨G, hr, h.f.set hk hx he, h.m.carry ho (Ne.symm h.bp) (Ne.symm h.bq), h.bp, h.bq⟩, ho.mono fun _ e => .inl e⟩
theorem BusC.at (h : BusC w b p q F M) : BusAt w b p q M := ⟨F, h⟩
theorem BusAt.carry {S : Nat → Prop} {w' : World} (h : BusAt w b p q M) (g : Only S w w') (hb : ¬ S b) (hp : ¬ S p) (hq : ¬ S q) : BusAt w' b p q M := by
  obtain ⟨F, h⟩ := h
  exact ⟨F, h.row.of_block (g.same b h.row.lt hb), h.f, h.m.carry g hp hq, h.bp, h.bq⟩
theorem BusAt.kept {w' : World} (h : BusAt w b p q M) (g : Kept w w') : BusAt w' b p q M := h.carry g id id id
theorem BusAt.lt (h : BusAt w b p q M) : b < w.heap.size ∧ p < w.heap.size ∧ q < w.heap.size := by
  obtain ⟨F, h⟩ := h
  exact ⟨h.row.lt, h.m.lt.1, h.m.lt.2⟩
set_option maxHeartbeats 1000000 in
theorem dev_any (a : Int) (x : Value) (w : World) :
    Calls Try.prog 23 #[x, .int .u64 a] w fun e w' => e = .returned (.bool (devB a)) ∧ w' = w := by
  unfold devB
  by_cases h1 : 61440 ≤ a
  · by_cases h2 : a < 62720
    · rw [decide_eq_true ⟨h1, h2⟩]
      go_enter Try.func23, Try.ntmps23
      go_wp2
      go_ret
      exact ⟨rfl, rfl⟩
    · rw [decide_eq_false (fun h => h2 h.2)]
      go_enter Try.func23, Try.ntmps23
      go_wp2
      go_ret
      exact ⟨rfl, rfl⟩
  · rw [decide_eq_false (fun h => h1 h.1)]
    go_enter Try.func23, Try.ntmps23
    go_wp2
    go_ret
    exact ⟨rfl, rfl⟩
set_option maxHeartbeats 1000000 in
theorem port_yes (k : Nat) (hk : k < 4) (w : World) :
    Calls Try.prog 43 #[.pointer (some ⟨b, 0, none⟩), .int .i64 (k : Int)] w fun e w' => e = .returned (.pointer (some ⟨b, 3 + 131 * k, none⟩)) ∧ w' = w := by
  have l0 : (0 : Int) ≤ (k : Int) := by omega
  have l1 : (k : Int) < 4 := by omega
  go_enter Try.func43, Try.ntmps43
  go_wp2
  go_ret
  exact ⟨by rw [Nat.mul_comm 131 k]; rfl, rfl⟩
set_option maxHeartbeats 1000000 in
theorem port_no (i : Int) (h : ¬ (0 ≤ i ∧ i < 4)) (w : World) :
    Calls Try.prog 43 #[.pointer (some ⟨b, 0, none⟩), .int .i64 i] w fun e w' => e = .returned (.pointer none) ∧ w' = w := by
  by_cases h0 : i < 0
  all_goals
    go_enter Try.func43, Try.ntmps43
    go_wp2
    go_ret
    exact ⟨rfl, rfl⟩
set_option maxHeartbeats 1000000 in
theorem portAt_yes (k : Nat) (hk : k < 4) (w : World) :
    Calls Try.prog 39 #[.pointer (some ⟨b, 0, none⟩), .int .u64 (61696 + 256 * (k : Int))] w fun e w' => e = .returned (.pointer (some ⟨b, 3 + 131 * k, none⟩)) ∧ w' = w := by
  have l0 : ¬ 61696 + 256 * (k : Int) < 61696 := by omega
  have hs : IntKind.u64.wrap (61696 + 256 * (k : Int) - 61696) = 256 * (k : Int) := by rw [IntKind.wrap_u64]; omega
  have hm : (256 * (k : Int)).tmod 256 = 0 := by simp
  have hm' : (256 * (k : Int)) % 256 = 0 := by omega
  have hd : (256 * (k : Int)).tdiv 256 = (k : Int) := by simp
  have hd' : (256 * (k : Int)) / 256 = (k : Int) := by omega
  have hw : IntKind.i64.wrap (k : Int) = (k : Int) := by rw [IntKind.wrap_i64]; omega
  go_enter Try.func39, Try.ntmps39
  go_wp2_with (go_at_call 43; refine (port_yes k hk _).mono ?_; rintro e w' ⟨rfl, rfl⟩)
  go_ret
  exact ⟨rfl, rfl⟩
set_option maxHeartbeats 1000000 in
theorem portAt_no (a : Int) (ha : U a) (h : ¬ 0 ≤ prtI a) (w : World) :
    Calls Try.prog 39 #[.pointer (some ⟨b, 0, none⟩), .int .u64 a] w fun e w' => e = .returned (.pointer none) ∧ w' = w := by
  obtain ⟨_, hn⟩ := prt_no h
  have h0 := ha.1
  have h9 := ha.2
  by_cases l0 : a < 61696
  · clear hn h ha
    go_enter Try.func39, Try.ntmps39
    go_wp2
    go_ret
    exact ⟨rfl, rfl⟩
  · have hs : IntKind.u64.wrap (a - 61696) = a - 61696 := by rw [IntKind.wrap_u64]; omega
    by_cases hm : (a - 61696) % 256 = 0
    · have hq : 4 ≤ (a - 61696) / 256 := by omega
      have hw : IntKind.i64.wrap ((a - 61696) / 256) = (a - 61696) / 256 := by rw [IntKind.wrap_i64]; omega
      have hno := port_no (b := b) ((a - 61696) / 256) (by omega)
      have d0 : 0 ≤ a - 61696 := by omega
      clear hn h ha
      go_enter Try.func39, Try.ntmps39
      go_wp2_with (go_at_call 43; refine (hno _).mono ?_; rintro e w' ⟨rfl, rfl⟩)
      go_ret
      exact ⟨rfl, rfl⟩
    · have d0 : 0 ≤ a - 61696 := by omega
      clear hn h ha
      go_enter Try.func39, Try.ntmps39
      go_wp2
      go_ret
      exact ⟨rfl, rfl⟩
end
end Go.Proofs.Ytpnlicklfemjeaa
