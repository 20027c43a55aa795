/-
  What the document's Do, Taken, Csr and Extend answer (the reference of layer 5): walked whole, for every argument.
-/
import Derived.Test.YtbeehnfmhclbmaaDoorRefPlain
import Derived.Lib.EndianBits
namespace Go.Proofs.YtbeehnfmhclbmaaDoor
open Go.RowKit
def yesI (b : Bool) : Int := cond b 1 0
/-- What comes of an operation, as P5.1 tells it. -/
def doI (op a b : Int) : Int := if op = 22 ∨ op = 35 then IntKind.u64.wrap (a + b) else if op = 36 then IntKind.u64.wrap (a - b) else if op = 23 ∨ op = 38 then yesI (decide (wrap64 a < wrap64 b)) else if op = 24 ∨ op = 39 then yesI (decide (a < b)) else if op = 25 ∨ op = 40 then bits .xor .u64 a b else if op = 26 ∨ op = 43 then bits .or .u64 a b else if op = 27 ∨ op = 44 then bits .and .u64 a b else if op = 28 ∨ op = 37 then IntKind.u64.wrap (a * 2 ^ (b % 64).toNat) else if op = 29 ∨ op = 41 then a / 2 ^ (b % 64).toNat else if op = 30 ∨ op = 42 then IntKind.u64.wrap (wrap64 a / 2 ^ (b % 64).toNat) else if op = 31 ∨ op = 45 then sextI (IntKind.u64.wrap (a + b)) 32 else if op = 46 then sextI (IntKind.u64.wrap (a - b)) 32 else if op = 32 ∨ op = 47 then sextI (IntKind.u64.wrap (a * 2 ^ (b % 32).toNat)) 32 else if op = 33 ∨ op = 48 then sextI (a % 4294967296 / 2 ^ (b % 32).toNat) 32 else if op = 34 ∨ op = 49 then IntKind.u64.wrap (wrap64 (sextI a 32) / 2 ^ (b % 32).toNat) else 0
def takenB (op a b : Int) : Bool := if op = 5 then a == b else if op = 6 then a != b else if op = 7 then decide (wrap64 a < wrap64 b) else if op = 8 then !decide (wrap64 a < wrap64 b) else if op = 9 then decide (a < b) else if op = 10 then decide (b ≤ a) else false
def csrI (op o v : Int) : Int := if op = 54 ∨ op = 57 then v else if op = 55 ∨ op = 58 then bits .or .u64 o v else if op = 56 ∨ op = 59 then bits .andNot .u64 o v else o
def extI (op v : Int) : Int := if op = 11 then sextI v 8 else if op = 12 then sextI v 16 else if op = 13 ∨ op = 66 then sextI v 32 else if op = 14 ∨ op = 67 then v else if op = 15 then v % 256 else if op = 16 then v % 65536 else if op = 17 ∨ op = 68 then v % 4294967296 else 0
theorem ret_boo {a b : Bool} (h : a = b) : Ending.returned (.bool a) = .returned (.bool b) := by rw [h]
theorem ryes_any (c : Bool) (w : World) : Calls Tryd.prog 21 #[.bool c] w fun e w' => e = .returned (.int .u64 (yesI c)) ∧ w' = w := by
  cases c
  all_goals
    go_enter Tryd.func21, Tryd.ntmps21
    go_wp2
    go_ret
    exact ⟨rfl, rfl⟩
set_option maxRecDepth 100000 in
set_option maxHeartbeats 4000000 in
theorem rdo_any (op a b : Int) (ha : U a) (hb : U b) (w : World) :
    Calls Tryd.prog 11 #[.int .i64 op, .int .u64 a, .int .u64 b] w fun e w' => e = .returned (.int .u64 (doI op a b)) ∧ w' = w := by
  have ha32 : bits .and .u64 a 4294967295 = a % 4294967296 := bits_mask .u64 64 (by decide) wraps_u64 32 (by decide) a ha.1 ha.2
  have hb63 : bits .and .u64 b 63 = b % 64 := bits_mask .u64 64 (by decide) wraps_u64 6 (by decide) b hb.1 hb.2
  have hb31 : bits .and .u64 b 31 = b % 32 := bits_mask .u64 64 (by decide) wraps_u64 5 (by decide) b hb.1 hb.2
  have u1 := U_wrap (a + b)
  have u2 := U_wrap (a - b)
  have u3 := U_wrap (a * 2 ^ (b % 32).toNat)
  have u4 : U (a % 4294967296 / 2 ^ (b % 32).toNat) := U_shr (by unfold U; omega) _
  go_enter Tryd.func11, Tryd.ntmps11
  go_wp2_with (first | (go_at_call 22; refine (less_any _ _ _).mono ?_; rintro e w' ⟨rfl, rfl⟩) | (go_at_call 21; refine (ryes_any _ _).mono ?_; rintro e w' ⟨rfl, rfl⟩) | (go_at_call 23; refine (rsext_any (by assumption) _ _).mono ?_; rintro e w' ⟨rfl, rfl⟩))
  all_goals clear u1 u2 u3 u4 ha32 hb63 hb31
  all_goals
    go_ret
    refine ⟨ret_int ?_, rfl⟩
    simp only [beq_iff_eq, beq_eq_false_iff_ne, ne_eq] at *
    unfold doI
    repeat (first | rw [if_pos (by omega)] | rw [if_neg (by omega)])
set_option maxRecDepth 100000 in
set_option maxHeartbeats 4000000 in
theorem rtaken_any (op a b : Int) (w : World) :
    Calls Tryd.prog 13 #[.int .i64 op, .int .u64 a, .int .u64 b] w fun e w' => e = .returned (.bool (takenB op a b)) ∧ w' = w := by
  go_enter Tryd.func13, Tryd.ntmps13
  go_wp2_with (go_at_call 22; refine (less_any _ _ _).mono ?_; rintro e w' ⟨rfl, rfl⟩)
  all_goals
    go_ret
    refine ⟨ret_boo ?_, rfl⟩
    simp only [beq_iff_eq, beq_eq_false_iff_ne, ne_eq] at *
    unfold takenB
    repeat (first | rw [if_pos (by omega)] | rw [if_neg (by omega)])
set_option maxRecDepth 100000 in
set_option maxHeartbeats 4000000 in
theorem rcsr_any (op o v : Int) (w : World) :
    Calls Tryd.prog 15 #[.int .i64 op, .int .u64 o, .int .u64 v] w fun e w' => e = .returned (.int .u64 (csrI op o v)) ∧ w' = w := by
  go_enter Tryd.func15, Tryd.ntmps15
  go_wp2
  all_goals
    go_ret
    refine ⟨ret_int ?_, rfl⟩
    simp only [beq_iff_eq, beq_eq_false_iff_ne, ne_eq] at *
    unfold csrI
    repeat (first | rw [if_pos (by omega)] | rw [if_neg (by omega)])
set_option maxRecDepth 100000 in
set_option maxHeartbeats 4000000 in
theorem rext_any (op v : Int) (hv : U v) (w : World) :
    Calls Tryd.prog 17 #[.int .i64 op, .int .u64 v] w fun e w' => e = .returned (.int .u64 (extI op v)) ∧ w' = w := by
  have e1 : bits .and .u64 v 255 = v % 256 := bits_mask .u64 64 (by decide) wraps_u64 8 (by decide) v hv.1 hv.2
  have e2 : bits .and .u64 v 65535 = v % 65536 := bits_mask .u64 64 (by decide) wraps_u64 16 (by decide) v hv.1 hv.2
  have e3 : bits .and .u64 v 4294967295 = v % 4294967296 := bits_mask .u64 64 (by decide) wraps_u64 32 (by decide) v hv.1 hv.2
  go_enter Tryd.func17, Tryd.ntmps17
  go_wp2_with (go_at_call 23; refine (rsext_any hv _ _).mono ?_; rintro e w' ⟨rfl, rfl⟩)
  all_goals clear e1 e2 e3
  all_goals
    go_ret
    refine ⟨ret_int ?_, rfl⟩
    simp only [beq_iff_eq, beq_eq_false_iff_ne, ne_eq] at *
    unfold extI
    repeat (first | rw [if_pos (by omega)] | rw [if_neg (by omega)])
end Go.Proofs.YtbeehnfmhclbmaaDoor
