/-
  What package mem's Lay, Frame, Same and Copy do (the landed package's): walked whole, for every argument.
-/
import Derived.Test.YtgeefklpljolaaaTWrite
import Derived.Test.YtgeefklpljolaaaRefLay
namespace Go.Proofs.Ytgeefklpljolaaa
open Go.RowKit
theorem MemAt.drew {T E : TypeId} {w : World} {p q : Nat} {B : Nat → Int} (h : MemAt T E w p q B) : MemAt T E w.drew p q B := ⟨h.obj, h.row.drew, h.byte⟩
set_option maxHeartbeats 1000000 in
theorem mlay_no (a : Int) (ha : U a) (s : ByteArray) (hs : s.size < 9223372036854775808) (h : ¬ (a ≤ 32768 ∧ (s.size : Int) ≤ 32768 - a)) (w : World) (p q : Nat) (B : Nat → Int) (hm : ProgAt w p q B) :
    Calls Try.prog 16 #[.pointer (some ⟨p, 0, none⟩), .int .u64 a, .string s] w fun e w' => e = .returned (.int .i64 60) ∧ Kept w w' := by
  have hf : fitsB' a (s.size : Int) = false := decide_eq_false h
  have hw : IntKind.u64.wrap (s.size : Int) = (s.size : Int) := wrap_id (by unfold U; omega)
  clear h
  go_enter Try.func16, Try.ntmps16
  go_wp2_with (go_at_call 26; refine (fits_any _ _ ha _ p q B hm).mono ?_; rintro e w' ⟨rfl, rfl⟩)
  go_ret
  exact ⟨rfl, Only.refl _ _⟩
set_option maxHeartbeats 1000000 in
theorem mlay_yes (a : Nat) (s : ByteArray) (h : a + s.size ≤ 32768) (hlt : a < 32768) (w : World) (p q : Nat) (B : Nat → Int) (hm : ProgAt w p q B) :
    Calls Try.prog 16 #[.pointer (some ⟨p, 0, none⟩), .int .u64 (a : Int), .string s] w fun e w' => e = .returned (.int .i64 0) ∧ ProgAt w' p q (layF B a s.data.toList) ∧ Only (fun i => i = q) w w' := by
  have hc := hm.cell
  have h2 : (a : Int) ≤ 32768 := by omega
  have h3 : (0 : Int) ≤ (a : Int) := by omega
  have h4 : ¬ 32768 = a := by omega
  have ha : U (a : Int) := by unfold U; omega
  have hf : fitsB' (a : Int) (s.size : Int) = true := decide_eq_true ⟨by omega, by omega⟩
  have hw : IntKind.u64.wrap (s.size : Int) = (s.size : Int) := wrap_id (by unfold U; omega)
  obtain ⟨R, hcp, hmR⟩ := copy_text hm a (32768 - a) s h
  have hk := (Only.refl (fun i => i = q) w).setRow rfl R
  go_enter Try.func16, Try.ntmps16
  go_wp2_with (go_at_call 26; refine (fits_any _ _ ha _ p q B hm).mono ?_; rintro e w' ⟨rfl, rfl⟩)
  go_ret
  exact ⟨rfl, hmR, hk⟩
/-- Nothing copied. -/
theorem copy_none (ad : Option Addr) (c : Nat) (w : World) : (Builtin.copy_ #[49, 9] 3 #[.slice ad 0 c, .string ⟨#[]⟩]).run Try.prog w = .ok (goInt 0) w := by
  have hu : Try.prog.underlying 49 = some (.slice 5) := by kernel_rfl
  have hs : (Try.prog.info? 5).map (·.size) = some 1 := by kernel_rfl
  cases hq : Try.prog.info? 5 with
  | none => simp [hq] at hs
  | some i =>
    cases ad <;> simp [Builtin.copy_, run_underlying hu, Builtin.lenOf, Builtin.firstCells, sizeOf, typeInfo, hq, storeCells]
set_option maxHeartbeats 1000000 in
theorem mlay_end (w : World) (p q : Nat) (B : Nat → Int) (hm : ProgAt w p q B) :
    Calls Try.prog 16 #[.pointer (some ⟨p, 0, none⟩), .int .u64 32768, .string ⟨#[]⟩] w fun e w' => e = .returned (.int .i64 0) ∧ Kept w w' := by
  have hc := hm.cell
  have hcp := copy_none
  have ha : U 32768 := by unfold U; omega
  have hf : fitsB' 32768 0 = true := rfl
  go_enter Try.func16, Try.ntmps16
  go_wp2_with (go_at_call 26; refine (fits_any _ _ ha _ p q B hm).mono ?_; rintro e w' ⟨rfl, rfl⟩)
  go_ret
  exact ⟨rfl, Only.refl _ _⟩
set_option maxHeartbeats 1000000 in
theorem mframe_in (f : Nat) (h : f < 128) (w : World) (p q : Nat) (B : Nat → Int) (hm : ProgAt w p q B) :
    Calls Try.prog 18 #[.pointer (some ⟨p, 0, none⟩), .int .i64 (f : Int)] w fun e w' => e = .returned (.string (textF B (f * 256) 256)) ∧ Kept w w' := by
  have hc := hm.cell
  have hv := fun c => conv_mem hm (f * 256) 256 c (by omega)
  have hl : f * 256 + 256 - f * 256 = 256 := by omega
  clear hm
  go_enter Try.func18, Try.ntmps18
  go_wp2
  go_ret
  exact ⟨rfl, Only.refl _ _⟩
set_option maxHeartbeats 1000000 in
theorem mframe_out (f : Int) (h : ¬ (0 ≤ f ∧ f < 128)) (w : World) (p q : Nat) (B : Nat → Int) (hm : ProgAt w p q B) :
    Calls Try.prog 18 #[.pointer (some ⟨p, 0, none⟩), .int .i64 f] w fun e w' => e = .returned (.string ByteArray.empty) ∧ Kept w w' := by
  have hc := hm.cell
  clear hm
  by_cases h0 : f < 0
  all_goals
    go_enter Try.func18, Try.ntmps18
    go_wp2
    go_ret
    exact ⟨rfl, Only.refl _ _⟩
theorem mframe_any (f : Int) (w : World) (p q : Nat) (B : Nat → Int) (hm : ProgAt w p q B) :
    Calls Try.prog 18 #[.pointer (some ⟨p, 0, none⟩), .int .i64 f] w fun e w' => e = .returned (.string (frameF B f)) ∧ Kept w w' := by
  unfold frameF
  by_cases h : 0 ≤ f ∧ f < 128
  · rw [if_pos h]
    have e := mframe_in f.toNat (by omega) w p q B hm
    rwa [show ((f.toNat : Nat) : Int) = f by omega] at e
  · rw [if_neg h]; exact mframe_out f h w p q B hm
end Go.Proofs.Ytgeefklpljolaaa
