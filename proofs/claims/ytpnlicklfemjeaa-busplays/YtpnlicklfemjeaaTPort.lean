/-
  What the calls of a port of package bus do (the landed package's): walked whole, for every argument.
-/
import Derived.Test.YtpnlicklfemjeaaBusBase
import Derived.Deep.RegionHeld3
namespace Go.Proofs.Ytpnlicklfemjeaa
open Go.RowKit
section
variable {w : World} {b o n : Nat} {T : TypeId} {F : Nat → Value} {P : Prt}
set_option maxHeartbeats 1000000 in
theorem take_some (c : UInt8) (r : List UInt8) (hr : P.pend = c :: r) (h : w.rowIs b T n F) (ho : o + 131 ≤ n) (hp : PortF F o P) :
    Calls Try.prog 51 #[.pointer (some ⟨b, o, none⟩)] w fun e w' => e = .returned (.int .u8 (c.toNat : Int)) ∧ PortTo w w' b o n T F P.take := by
  obtain ⟨hk, I, O, tk, hc⟩ := hp
  have hs := hc.sum
  have ht := hk.typ
  rw [hr, List.length_cons] at hs
  have hI : I tk = c := by have := hc.pend 0 c (by rw [hr]; rfl); simpa using this
  have c64 : w.cell? ⟨b, o + 64, none⟩ = some (.int .i64 (P.typ : Int)) := by rw [h.cell (by omega), hc.typ]
  have c65 : w.cell? ⟨b, o + 65, none⟩ = some (.int .i64 (tk : Int)) := by rw [h.cell (by omega), hc.tak]
  have ct : w.cell? ⟨b, o + tk, none⟩ = some (.int .u8 (c.toNat : Int)) := by rw [h.cell (by omega), hc.inp tk (by omega), hI]
  have fz := h.frozen (o + 65)
  have hne : ((tk : Int) == (P.typ : Int)) = false := beq_eq_false_iff_ne.2 (by omega)
  have l0 : (0 : Int) ≤ (tk : Int) := by omega
  have l1 : (tk : Int) < 64 := by omega
  have hpost : ∀ w0 : World, w0.rowIs b T n F → Only (fun i => i = b) w w0 → PortTo w (w0.setCell ⟨b, o + 65, none⟩ (.int .i64 ((tk : Int) + 1))) b o n T F P.take := fun w0 h0 g0 => by
    refine ⟨_, h0.set (o + 65) _, ⟨hk.take, I, O, tk + 1, fun i hi => ?_, ?_, ?_, ?_, fun j x hx => ?_, fun i hi => ?_, ?_, hc.out⟩, fun i hi => ?_, g0.setCell rfl _⟩
    · rw [if_neg (by omega)]; exact hc.inp i hi
    · rw [if_neg (by omega)]; exact hc.typ
    · rw [if_pos rfl]; rfl
    · simp only [Prt.take, hr, List.tail_cons]; omega
    · simp only [Prt.take, hr, List.tail_cons] at hx
      rw [show tk + 1 + j = tk + (j + 1) by omega]
      exact hc.pend (j + 1) x (by rw [hr]; exact hx)
    · rw [if_neg (by omega)]; exact hc.outp i hi
    · rw [if_neg (by omega)]; exact hc.shows
    · rw [if_neg (by omega)]
  clear hc hk hI hs ht hr ho
  go_enter Try.func51, Try.ntmps51
  go_wp2
  go_region
  go_wp2
  go_region
  go_wp2
  go_ret
  exact ⟨rfl, hpost _ h.drew.drew (Only.refl _ _).drew.drew⟩
set_option maxHeartbeats 1000000 in
theorem take_none (hr : P.pend = []) (h : w.rowIs b T n F) (ho : o + 131 ≤ n) (hp : PortF F o P) :
    Calls Try.prog 51 #[.pointer (some ⟨b, o, none⟩)] w fun e w' => e = .returned (.int .u8 0) ∧ PortTo w w' b o n T F P.take := by
  obtain ⟨hk, I, O, tk, hc⟩ := hp
  have hs := hc.sum
  rw [hr, List.length_nil, Nat.add_zero] at hs
  have c64 : w.cell? ⟨b, o + 64, none⟩ = some (.int .i64 (tk : Int)) := by rw [h.cell (by omega), hc.typ, hs]
  have c65 : w.cell? ⟨b, o + 65, none⟩ = some (.int .i64 (tk : Int)) := by rw [h.cell (by omega), hc.tak]
  have hT : P.take = P := by
    unfold Prt.take
    rw [hr]
    cases P
    simp_all
  have hpost : PortTo w w.drew b o n T F P.take := by rw [hT]; exact ⟨F, h.drew, ⟨hk, I, O, tk, hc⟩, fun _ _ => rfl, (Only.refl _ _).drew⟩
  clear hc hk hs hr ho hT
  go_enter Try.func51, Try.ntmps51
  go_wp2
  go_region
  go_wp2
  go_ret
  exact ⟨rfl, hpost⟩
theorem take_any (h : w.rowIs b T n F) (ho : o + 131 ≤ n) (hp : PortF F o P) :
    Calls Try.prog 51 #[.pointer (some ⟨b, o, none⟩)] w fun e w' => e = .returned (.int .u8 P.first) ∧ PortTo w w' b o n T F P.take := by
  cases hr : P.pend with
  | nil => rw [show P.first = 0 by simp [Prt.first, hr]]; exact take_none hr h ho hp
  | cons c r => rw [show P.first = (c.toNat : Int) by simp [Prt.first, hr]]; exact take_some c r hr h ho hp
set_option maxHeartbeats 1000000 in
theorem shown_any (h : w.rowIs b T n F) (ho : o + 131 ≤ n) (hp : PortF F o P) :
    Calls Try.prog 45 #[.pointer (some ⟨b, o, none⟩)] w fun e w' => e = .returned (.string (bs P.out)) ∧ Kept w w' := by
  obtain ⟨hk, I, O, tk, hc⟩ := hp
  have hl := hk.out
  have c130 : w.cell? ⟨b, o + 130, none⟩ = some (.int .i64 (P.out.length : Int)) := by rw [h.cell (by omega), hc.shows]
  have hv := fun c => conv_row h (o + 66) P.out.length c (by omega) P.out rfl (fun j x hx => by
    have : j < P.out.length := (List.getElem?_eq_some_iff.1 hx).1
    rw [hc.outp j (by omega), hc.out j x hx])
  have hv' := fun c => conv_row h.drew (o + 66) P.out.length c (by omega) P.out rfl (fun j x hx => by
    have : j < P.out.length := (List.getElem?_eq_some_iff.1 hx).1
    rw [hc.outp j (by omega), hc.out j x hx])
  have l0 : (0 : Int) ≤ (P.out.length : Int) := by omega
  have l1 : (P.out.length : Int) ≤ 64 := by omega
  clear hc hk
  go_enter Try.func45, Try.ntmps45
  go_wp2
  go_region
  go_wp2
  go_ret
  exact ⟨rfl, (Only.refl _ _).drew⟩
end
end Go.Proofs.Ytpnlicklfemjeaa
