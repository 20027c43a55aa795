/-
  What the document's bus does (NewBus, Read, Write, Put, Type, Timer, IsDevice of the reference): walked whole, for every argument.
-/
import Derived.Test.YtpnlicklfemjeaaBusDoc
import Derived.Laws.Tables
namespace Go.Proofs.Ytpnlicklfemjeaa
open Go.RowKit
/-- The cells of the document's bus. -/
def refF (p : Nat) (M : BusM) (i : Nat) : Value :=
  if i = 0 then .pointer (some ⟨p, 0, none⟩) else if i = 1 then .int .u64 M.t else if i = 2 then .int .u64 M.a else if i < 7 then .string (bs (M.P (i - 3)).pend) else if i < 11 then .int .i64 ((M.P (i - 7)).typ : Int) else if i < 15 then .string (bs (M.P (i - 11)).out) else .bool false
structure RefBus (w : World) (b p q : Nat) (M : BusM) : Prop where
  row : w.rowIs b 42 16 (refF p M)
  m : RefAt w p q M.B
  bp : b ≠ p
  bq : b ≠ q
  ok : M.Ok
section
variable {w : World} {b p q : Nat} {M : BusM}
theorem RefBus.c0 (h : RefBus w b p q M) : w.cell? ⟨b, 0, none⟩ = some (.pointer (some ⟨p, 0, none⟩)) := h.row.cell (by omega)
theorem RefBus.c1 (h : RefBus w b p q M) : w.cell? ⟨b, 1, none⟩ = some (.int .u64 M.t) := h.row.cell (by omega)
theorem RefBus.c2 (h : RefBus w b p q M) : w.cell? ⟨b, 2, none⟩ = some (.int .u64 M.a) := h.row.cell (by omega)
theorem RefBus.c15 (h : RefBus w b p q M) : w.cell? ⟨b, 15, none⟩ = some (.bool false) := h.row.cell (by omega)
theorem refF_in (p : Nat) (M : BusM) {k : Nat} (hk : k < 4) : refF p M (3 + k) = .string (bs (M.P k).pend) := by
  unfold refF; rw [if_neg (by omega), if_neg (by omega), if_neg (by omega), if_pos (by omega), Nat.add_sub_cancel_left]
theorem refF_typ (p : Nat) (M : BusM) {k : Nat} (hk : k < 4) : refF p M (7 + k) = .int .i64 ((M.P k).typ : Int) := by
  unfold refF; rw [if_neg (by omega), if_neg (by omega), if_neg (by omega), if_neg (by omega), if_pos (by omega), Nat.add_sub_cancel_left]
theorem refF_out (p : Nat) (M : BusM) {k : Nat} (hk : k < 4) : refF p M (11 + k) = .string (bs (M.P k).out) := by
  unfold refF; rw [if_neg (by omega), if_neg (by omega), if_neg (by omega), if_neg (by omega), if_neg (by omega), if_pos (by omega), Nat.add_sub_cancel_left]
theorem RefBus.cin (h : RefBus w b p q M) {k : Nat} (hk : k < 4) : w.cell? ⟨b, 3 + k, none⟩ = some (.string (bs (M.P k).pend)) := by rw [h.row.cell (by omega), refF_in p M hk]
theorem RefBus.ctyp (h : RefBus w b p q M) {k : Nat} (hk : k < 4) : w.cell? ⟨b, 7 + k, none⟩ = some (.int .i64 ((M.P k).typ : Int)) := by rw [h.row.cell (by omega), refF_typ p M hk]
theorem RefBus.cout (h : RefBus w b p q M) {k : Nat} (hk : k < 4) : w.cell? ⟨b, 11 + k, none⟩ = some (.string (bs (M.P k).out)) := by rw [h.row.cell (by omega), refF_out p M hk]
theorem RefBus.carry {S : Nat → Prop} {w' : World} (h : RefBus w b p q M) (g : Only S w w') (hb : ¬ S b) (hp : ¬ S p) (hq : ¬ S q) : RefBus w' b p q M :=
  ⟨h.row.of_block (g.same b h.row.lt hb), h.m.carry g hp hq, h.bp, h.bq, h.ok⟩
theorem RefBus.kept {w' : World} (h : RefBus w b p q M) (g : Kept w w') : RefBus w' b p q M := h.carry g id id id
theorem RefBus.lt (h : RefBus w b p q M) : b < w.heap.size ∧ p < w.heap.size ∧ q < w.heap.size := ⟨h.row.lt, h.m.lt.1, h.m.lt.2⟩
/-- Some of the object's cells are others now. -/
theorem RefBus.to {w' : World} {M' : BusM} (h : RefBus w b p q M) (g : Only (fun i => i = b) w w') (hr : w'.rowIs b 42 16 (refF p M')) (hB : M'.B = M.B) (ho : M'.Ok) : RefBus w' b p q M' ∧ Only (fun i => i = b ∨ i = q) w w' :=
  ⟨⟨hr, by rw [hB]; exact h.m.carry g (Ne.symm h.bp) (Ne.symm h.bq), h.bp, h.bq, ho⟩, g.mono fun _ e => .inl e⟩
theorem refF_new (p : Nat) (B : Nat → Int) (i : Nat) : refF p (.new B) i = if i = 0 then .pointer (some ⟨p, 0, none⟩) else if i = 1 then .int .u64 0 else if i = 2 then .int .u64 18446744073709551615 else if i < 7 then .string ⟨#[]⟩ else if i < 11 then .int .i64 0 else if i < 15 then .string ⟨#[]⟩ else .bool false := rfl
set_option maxHeartbeats 1000000 in
theorem rbnew_any (w : World) (p q : Nat) (B : Nat → Int) (hm : RefAt w p q B) :
    Calls Try.prog 10 #[.pointer (some ⟨p, 0, none⟩)] w fun e w' => ∃ b, e = .returned (.pointer (some ⟨b, 0, none⟩)) ∧ RefBus w' b p q (.new B) ∧ w.heap.size ≤ b ∧ Kept w w' := by
  go_enter Try.func10, Try.ntmps10
  go_wp2
  go_ret
  have hl := hm.lt
  refine ⟨_, rfl, ⟨?_, hm.kept ((Only.refl _ w).alloc _), by omega, by omega, .new B⟩, Nat.le_refl _, (Only.refl _ w).alloc _⟩
  refine World.rowIs_alloc w _ _ _ fun i hi => ?_
  have hi' : i < 16 := hi
  rw [refF_new]
  have : i = 0 ∨ i = 1 ∨ i = 2 ∨ i = 3 ∨ i = 4 ∨ i = 5 ∨ i = 6 ∨ i = 7 ∨ i = 8 ∨ i = 9 ∨ i = 10 ∨ i = 11 ∨ i = 12 ∨ i = 13 ∨ i = 14 ∨ i = 15 := by omega
  rcases this with rfl | rfl | rfl | rfl | rfl | rfl | rfl | rfl | rfl | rfl | rfl | rfl | rfl | rfl | rfl | rfl <;> rfl
set_option maxHeartbeats 1000000 in
theorem rdev_any (a : Int) (h : RefBus w b p q M) :
    Calls Try.prog 24 #[.pointer (some ⟨b, 0, none⟩), .int .u64 a] w fun e w' => e = .returned (.bool (devB a)) ∧ w' = w := by
  have c15 := h.c15
  unfold devB
  by_cases h1 : 61440 ≤ a
  · by_cases h2 : a < 62720
    · rw [decide_eq_true ⟨h1, h2⟩]
      go_enter Try.func24, Try.ntmps24
      go_wp2
      go_ret
      exact ⟨rfl, rfl⟩
    · rw [decide_eq_false (fun h => h2 h.2)]
      go_enter Try.func24, Try.ntmps24
      go_wp2
      go_ret
      exact ⟨rfl, rfl⟩
  · rw [decide_eq_false (fun h => h1 h.1)]
    go_enter Try.func24, Try.ntmps24
    go_wp2
    go_ret
    exact ⟨rfl, rfl⟩
set_option maxHeartbeats 1000000 in
theorem rtimer_any (h : RefBus w b p q M) :
    Calls Try.prog 22 #[.pointer (some ⟨b, 0, none⟩)] w fun e w' => e = .returned (.bool (timB M)) ∧ Kept w w' := by
  have c1 := h.c1
  have c2 := h.c2
  go_enter Try.func22, Try.ntmps22
  go_wp2
  go_region
  go_wp2
  go_ret
  exact ⟨rfl, (Only.refl _ _).drew⟩
set_option maxHeartbeats 1000000 in
theorem rport_any (a : Int) (ha : U a) (w : World) :
    Calls Try.prog 38 #[.int .u64 a] w fun e w' => e = .returned (.int .i64 (prtI a)) ∧ w' = w := by
  have h0 := ha.1
  have h9 := ha.2
  unfold prtI
  by_cases l0 : a < 61696
  · rw [if_pos (.inl l0)]
    clear ha
    go_enter Try.func38, Try.ntmps38
    go_wp2
    go_ret
    exact ⟨rfl, rfl⟩
  · have hs : IntKind.u64.wrap (a - 61696) = a - 61696 := by rw [IntKind.wrap_u64]; omega
    by_cases hm : (a - 61696) % 256 = 0
    · by_cases hq : 4 ≤ (a - 61696) / 256
      · rw [if_pos (.inr (.inr hq))]
        clear ha
        go_enter Try.func38, Try.ntmps38
        go_wp2
        go_ret
        exact ⟨rfl, rfl⟩
      · rw [if_neg (by omega)]
        have hw : IntKind.i64.wrap ((a - 61696) / 256) = (a - 61696) / 256 := by rw [IntKind.wrap_i64]; omega
        clear ha
        go_enter Try.func38, Try.ntmps38
        go_wp2
        go_ret
        exact ⟨rfl, rfl⟩
    · rw [if_pos (.inr (.inl hm))]
      clear ha
      go_enter Try.func38, Try.ntmps38
      go_wp2
      go_ret
      exact ⟨rfl, rfl⟩
end
end Go.Proofs.Ytpnlicklfemjeaa
