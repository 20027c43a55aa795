/-
  What the document's memory answers (New, Code, Read, Write, Lay, Frame of the reference): walked whole, for every argument.
-/
import Derived.Test.YtpplclenokfpeaaDoorMemBase
namespace Go.Proofs.YtpplclenokfpeaaDoor
open Go.RowKit
abbrev RefAt (w : World) (p q : Nat) (B : Nat → Int) : Prop := MemAt 101 5 w p q B
theorem info8 : (Tryd.prog.info? 5).map (fun i => (i.zero, i.size, i.bytes)) = some (some (.int .u8 0), 1, 1) := by kernel_rfl
/-- A row of noughts, as make lays it. -/
def zrow : Array Value := madeCells #[.int .u8 0] 32768
theorem make_mem (w : World) : (Instr.makeSlice 56 (.int .i64 32768) (.int .i64 32768)).run Tryd.prog w = .ok (.slice (some ⟨w.heap.size, 0, none⟩) 32768 32768) (w.alloc (.cells zrow 5)) :=
  run_make_row' (P := Tryd.prog) 56 5 (.int .u8 0) 1 Tryd.underlying56 info8 rfl .i64 .i64 32768 (by decide) (by decide) w
theorem mem_new (T : TypeId) (w : World) : MemAt T 5 ((w.alloc (.cells zrow 5)).alloc (.cells #[.slice (some ⟨w.heap.size, 0, none⟩) 32768 32768] T)) (w.heap.size + 1) w.heap.size (fun _ => 0) :=
  ⟨by rw [← show (w.alloc (.cells zrow 5)).heap.size = w.heap.size + 1 from Go.Deep.nblk_alloc _ _]; exact Go.Deep.blk_alloc_new _ _, (World.rowIs_made w (.int .u8 0) 32768 5).alloc _, fun _ _ => by omega⟩
theorem rnew_any (w : World) :
    Calls Tryd.prog 23 #[] w fun e w' => ∃ p q, e = .returned (.pointer (some ⟨p, 0, none⟩)) ∧ RefAt w' p q (fun _ => 0) ∧ w.heap.size ≤ p ∧ w.heap.size ≤ q ∧ Kept w w' := by
  have hmk := make_mem
  go_enter Tryd.func23, Tryd.ntmps23
  go_wp2
  go_ret
  exact ⟨_, _, rfl, mem_new _ w, by omega, by omega, ((Only.refl _ w).alloc _).alloc _⟩
/-- Why n bytes from a place on can't be had: 61, 60, or 0. -/
def codeI (a n : Int) : Int := if ¬ (n = 1 ∨ n = 2 ∨ n = 4 ∨ n = 8) ∨ ¬ a % n = 0 then 61 else if 32768 ≤ a then 60 else 0
theorem code_0 {a n : Int} (h1 : n = 1 ∨ n = 2 ∨ n = 4 ∨ n = 8) (h2 : a % n = 0) (h3 : a < 32768) : codeI a n = 0 := by
  unfold codeI; rw [if_neg (by rintro (h | h); exact h h1; exact h h2), if_neg (by omega)]
theorem code_60 {a n : Int} (h1 : n = 1 ∨ n = 2 ∨ n = 4 ∨ n = 8) (h2 : a % n = 0) (h3 : 32768 ≤ a) : codeI a n = 60 := by
  unfold codeI; rw [if_neg (by rintro (h | h); exact h h1; exact h h2), if_pos h3]
theorem code_61 {a n : Int} (h : ¬ (n = 1 ∨ n = 2 ∨ n = 4 ∨ n = 8) ∨ ¬ a % n = 0) : codeI a n = 61 := by
  unfold codeI; rw [if_pos h]
set_option maxHeartbeats 2000000 in
theorem rcode_any (a n : Int) (ha : U a) (w : World) (p q : Nat) (B : Nat → Int) (hm : RefAt w p q B) :
    Calls Tryd.prog 24 #[.pointer (some ⟨p, 0, none⟩), .int .u64 a, .int .i64 n] w fun e w' => e = .returned (.int .i64 (codeI a n)) ∧ Kept w w' := by
  have hc := hm.cell
  have h0 := ha.1
  clear hm ha
  by_cases hn : n = 1 ∨ n = 2 ∨ n = 4 ∨ n = 8
  · rcases hn with rfl | rfl | rfl | rfl
    all_goals
      go_enter Tryd.func24, Tryd.ntmps24
      go_wp2
      all_goals
        go_ret
        refine ⟨ret_int ?_, Only.refl _ _⟩
        go_light
        try simp only [bne_iff_ne, bne_eq_false_iff_eq, ne_eq] at *
        unfold codeI
        first | (exfalso; omega) | rw [if_pos (by omega)] | rw [if_neg (by omega), if_pos (by omega)] | rw [if_neg (by omega), if_neg (by omega)]
  · rw [code_61 (.inl hn)]
    have n1 : (n == 1) = false := beq_eq_false_iff_ne.2 (by omega)
    have n2 : (n == 2) = false := beq_eq_false_iff_ne.2 (by omega)
    have n4 : (n == 4) = false := beq_eq_false_iff_ne.2 (by omega)
    have n8 : (n == 8) = false := beq_eq_false_iff_ne.2 (by omega)
    have m1 : ¬ n = 1 := by omega
    have m2 : ¬ n = 2 := by omega
    have m4 : ¬ n = 4 := by omega
    have m8 : ¬ n = 8 := by omega
    clear hn
    go_enter Tryd.func24, Tryd.ntmps24
    go_wp2
    go_ret
    exact ⟨rfl, Only.refl _ _⟩
end Go.Proofs.YtpplclenokfpeaaDoor
