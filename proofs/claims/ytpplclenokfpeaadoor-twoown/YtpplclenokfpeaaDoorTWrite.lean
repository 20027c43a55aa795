/-
  What package mem's Write does (the landed package's): walked whole, for every argument.
-/
import Derived.Test.YtpplclenokfpeaaDoorTMem
import Derived.Deep.RegionHeld3
namespace Go.Proofs.YtpplclenokfpeaaDoor
open Go.RowKit
set_option maxRecDepth 10000 in
set_option maxHeartbeats 2000000 in
theorem mwrite_yes (a n : Nat) (v : Int) (hn : n = 1 ∨ n = 2 ∨ n = 4 ∨ n = 8) (h : a + n ≤ 32768) (hcode : codeI (a : Int) (n : Int) = 0) (w : World) (p q : Nat) (B : Nat → Int) (hm : ProgAt w p q B) :
    Calls Tryd.prog 21 #[.pointer (some ⟨p, 0, none⟩), .int .u64 (a : Int), .int .i64 (n : Int), .int .u64 v] w fun e w' => e = .returned (.int .i64 0) ∧ ProgAt w' p q (wrF B a n v) ∧ Only (fun i => i = q) w w' := by
  have hc := hm.cell
  go_enter Tryd.func21, Tryd.ntmps21
  go_wp2_with fail
  refine (refuses_any _ _ (by unfold U; omega) _ p q B hm).mono ?_
  rintro e w' ⟨rfl, rfl⟩
  rw [hcode]
  go_wp2_with fail
  have hS0 : Only (fun i => i = q) w' w' := Only.refl _ _
  have hsz := bytes_size (n := n) (by omega) v
  have a0 : (0 : Int) ≤ (a : Int) := by omega
  have a1 : (a : Int) ≤ 32768 := by omega
  have hk0 : Only (fun i => i = q) w' w'.drew := (Only.refl _ _).drew
  have hc0 : w'.drew.cell? ⟨p, 0, none⟩ = some (.slice (some ⟨q, 0, none⟩) 32768 32768) := hc
  go_region_held3 (fun w2 => Only (fun i => i = q) w' w2 ∧ w2.cell? ⟨p, 0, none⟩ = some (.slice (some ⟨q, 0, none⟩) 32768 32768)) (exact ⟨by assumption, by assumption⟩) ((go_at_call 47; refine (bytes_any _ _ _).mono ?_; rintro e w1 ⟨rfl, hg1⟩; have hk1 : Only (fun i => i = q) w' w1 := Only.of_grown hg1; have hm1 := hm.kept (Only.of_grown hg1); have hc1 := hm1.cell; obtain ⟨R, hcp, hmR⟩ := copy_text hm1 a (32768 - a) (bytesI v (n : Int)) (by omega); have hk2 := hk1.setRow rfl R; have hc2 := hmR.cell))
  go_wp2
  go_ret
  exact ⟨rfl, hmR.congr fun i _ => lay_bytes (by omega) v i, hk2⟩
end Go.Proofs.YtpplclenokfpeaaDoor
