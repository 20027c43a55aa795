/-
  What package mem's Lay, Frame, Same and Copy do (the landed package's): walked whole, for every argument.
-/
import Derived.Test.YtpnlicklfemjeaaTWrite
import Derived.Test.YtpnlicklfemjeaaRefLay
namespace Go.Proofs.Ytpnlicklfemjeaa
open Go.RowKit
theorem MemAt.drew {T E : TypeId} {w : World} {p q : Nat} {B : Nat → Int} (h : MemAt T E w p q B) : MemAt T E w.drew p q B := ⟨h.obj, h.row.drew, h.byte⟩
/-- Nothing copied. -/
theorem copy_none (ad : Option Addr) (c : Nat) (w : World) : (Builtin.copy_ #[67, 9] 3 #[.slice ad 0 c, .string ⟨#[]⟩]).run Try.prog w = .ok (goInt 0) w := by
  have hu : Try.prog.underlying 67 = some (.slice 5) := by kernel_rfl
  have hs : (Try.prog.info? 5).map (·.size) = some 1 := by kernel_rfl
  cases hq : Try.prog.info? 5 with
  | none => simp [hq] at hs
  | some i =>
    cases ad <;> simp [Builtin.copy_, run_underlying hu, Builtin.lenOf, Builtin.firstCells, sizeOf, typeInfo, hq, storeCells]
set_option maxHeartbeats 1000000 in
theorem mframe_in (f : Nat) (h : f < 128) (w : World) (p q : Nat) (B : Nat → Int) (hm : ProgAt w p q B) :
    Calls Try.prog 26 #[.pointer (some ⟨p, 0, none⟩), .int .i64 (f : Int)] w fun e w' => e = .returned (.string (textF B (f * 256) 256)) ∧ Kept w w' := by
  have hc := hm.cell
  have hv := fun c => conv_mem hm (f * 256) 256 c (by omega)
  have hl : f * 256 + 256 - f * 256 = 256 := by omega
  clear hm
  go_enter Try.func26, Try.ntmps26
  go_wp2
  go_ret
  exact ⟨rfl, Only.refl _ _⟩
set_option maxHeartbeats 1000000 in
theorem mframe_out (f : Int) (h : ¬ (0 ≤ f ∧ f < 128)) (w : World) (p q : Nat) (B : Nat → Int) (hm : ProgAt w p q B) :
    Calls Try.prog 26 #[.pointer (some ⟨p, 0, none⟩), .int .i64 f] w fun e w' => e = .returned (.string ByteArray.empty) ∧ Kept w w' := by
  have hc := hm.cell
  clear hm
  by_cases h0 : f < 0
  all_goals
    go_enter Try.func26, Try.ntmps26
    go_wp2
    go_ret
    exact ⟨rfl, Only.refl _ _⟩
theorem mframe_any (f : Int) (w : World) (p q : Nat) (B : Nat → Int) (hm : ProgAt w p q B) :
    Calls Try.prog 26 #[.pointer (some ⟨p, 0, none⟩), .int .i64 f] w fun e w' => e = .returned (.string (frameF B f)) ∧ Kept w w' := by
  unfold frameF
  by_cases h : 0 ≤ f ∧ f < 128
  · rw [if_pos h]
    have e := mframe_in f.toNat (by omega) w p q B hm
    rwa [show ((f.toNat : Nat) : Int) = f by omega] at e
  · rw [if_neg h]; exact mframe_out f h w p q B hm
end Go.Proofs.Ytpnlicklfemjeaa
