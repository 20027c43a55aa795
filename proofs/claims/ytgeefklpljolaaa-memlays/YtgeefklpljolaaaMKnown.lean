/-
  The examples that every statement of layer 6 asks first (known) hold.
-/
import Derived.Test.YtgeefklpljolaaaMemFace
import Derived.Deep.RegionHeld3
namespace Go.Proofs.Ytgeefklpljolaaa
open Go.RowKit
/-- Memory behind the first example's write. -/
def exB : Nat → Int := wrZ (fun _ => 0) 8 4 16909060
theorem exB_at (i : Nat) : exB i = if 8 ≤ i ∧ i < 12 then 16909060 / 256 ^ (i - 8) % 256 else 0 := by
  unfold exB wrZ
  rw [if_pos (by decide)]
  rfl
theorem x1 : codeI 8 4 = 0 := by decide
theorem x2 : codeI 8 8 = 0 := by decide
theorem x3 : codeI 3 2 = 61 := by decide
theorem x4 : codeI 32768 1 = 60 := by decide
theorem x5 : (rdZ exB 8 8 == 16909060) = true := by
  unfold rdZ
  rw [if_pos x2]
  decide +kernel
theorem U_lit {n : Int} (h : (decide (0 ≤ n) && decide (n < 18446744073709551616)) = true) : U n := by
  unfold U; simpa using h
theorem x6 : layC 32767 2 = 60 := by decide
theorem x7 : layZ exB 32767 ⟨#[97, 98]⟩ = exB := by
  unfold layZ
  rw [if_neg (by decide)]
theorem x8 : (frameF exB 127).size = 256 := by
  unfold frameF
  rw [if_pos (by decide), text_size]
theorem x9 : frameF exB 128 = ⟨#[]⟩ := by
  unfold frameF
  rw [if_neg (by decide)]
  rfl
theorem x10 : (frameF exB 0).size = 256 := by
  unfold frameF
  rw [if_pos (by decide), text_size]
theorem x11 : (frameF exB 0).data.toList[8]? = some 4 := by
  unfold frameF
  rw [if_pos (by decide), text_list, List.getElem?_map, List.getElem?_range (by decide), Option.map_some, exB_at, if_pos (by decide)]
  decide
theorem idx_str (s : ByteArray) (k : Nat) (c : UInt8) (hc : s.data.toList[k]? = some c) (w : World) : (Instr.index 9 (.string s) (.int .i64 (k : Int))).run Try.prog w = .ok (.int .u8 (c.toNat : Int)) w := by
  have hk : k < s.size := by
    have := (List.getElem?_eq_some_iff.1 hc).1
    simpa using this
  have he : s[k] = c := by
    rw [← (List.getElem?_eq_some_iff.1 hc).2, Array.getElem_toList]
    rfl
  simp [Instr.index, go_sem, hk, he]
theorem x12 (w : World) : (Instr.index 9 (.string (frameF exB 0)) (.int .i64 8)).run Try.prog w = .ok (.int .u8 4) w := idx_str (frameF exB 0) 8 4 x11 w
theorem x13 : sameM exB (fun _ => 0) = false := same_no 8 (by decide) (by rw [exB_at]; decide)
theorem x14 : sameM (fun _ => 0) (fun _ => 0) = true := same_yes fun _ _ => rfl
set_option maxHeartbeats 1000000 in
theorem known6_any (w : World) :
    Calls Try.prog 7 #[] w fun e w' => e = .returned (.bool true) ∧ Kept w w' := by
  have h1 := x1
  have h2 := x2
  have h3 := x3
  have h4 := x4
  have h5 := x5
  go_enter Try.func7, Try.ntmps7
  go_wp2_with fail
  refine (new_from (Only.refl _ w)).mono ?_
  rintro e w1 ⟨p, q, rfl, s1⟩
  go_wp2_with fail
  refine (write_from s1 _ _ _ (U_lit (by decide))).mono ?_
  rintro e w2 ⟨rfl, s2⟩
  rw [show wrZ (fun _ => 0) 8 4 16909060 = exB from rfl] at s2
  have h6 := x6
  have h7 := x7
  have h8 := x8
  have h9 := x9
  have h10 := x10
  have h12 := x12
  have h13 := x13
  have h14 := x14
  go_wp2_with (first | (go_at_call 14; refine (read_from (by assumption) _ _ (U_lit (by decide))).mono ?_; rintro e w' ⟨rfl, hs⟩) | (go_at_call 16; refine (lay_from (by assumption) _ (U_lit (by decide)) _ (by decide)).mono ?_; rintro e w' ⟨rfl, hs⟩; rw [x7] at hs) | (go_at_call 18; refine (frame_from (by assumption) _).mono ?_; rintro e w' ⟨rfl, hs⟩) | (go_at_call 20; refine (same_from (by assumption)).mono ?_; rintro e w' ⟨rfl, hs⟩) | (go_at_call 8; refine (new_from (St.k (by assumption))).mono ?_; rintro e w' ⟨p2, q2, rfl, hs⟩))
  go_ret
  exact ⟨rfl, St.k (by assumption)⟩
end Go.Proofs.Ytgeefklpljolaaa
