/-
  What the Write of the document's memory does: walked whole, for every argument.
-/
import Derived.Test.YtpplclenokfpeaaDoorMemBase
import Derived.Laws.BytesString
namespace Go.Proofs.YtpplclenokfpeaaDoor
open Go.RowKit
abbrev RefAt (w : World) (p q : Nat) (B : Nat → Int) : Prop := MemAt 101 5 w p q B
theorem info8 : (Tryd.prog.info? 5).map (fun i => (i.zero, i.size, i.bytes)) = some (some (.int .u8 0), 1, 1) := by kernel_rfl
/-- A row of noughts, as make lays it. -/
def zrow : Array Value := madeCells #[.int .u8 0] 32768
theorem make_mem (w : World) : (Instr.makeSlice 56 (.int .i64 32768) (.int .i64 32768)).run Tryd.prog w = .ok (.slice (some ⟨w.heap.size, 0, none⟩) 32768 32768) (w.alloc (.cells zrow 5)) :=
  run_make_row' (P := Tryd.prog) 56 5 (.int .u8 0) 1 Tryd.underlying56 info8 rfl .i64 .i64 32768 (by decide) (by decide) w
theorem mem_new (T : TypeId) (w : World) : MemAt T 5 ((w.alloc (.cells zrow 5)).alloc (.cells #[.slice (some ⟨w.heap.size, 0, none⟩) 32768 32768] T)) (w.heap.size + 1) w.heap.size (fun _ => 0) :=
  ⟨by rw [← show (w.alloc (.cells zrow 5)).heap.size = w.heap.size + 1 from Go.Deep.nblk_alloc _ _]; exact Go.Deep.blk_alloc_new _ _, (World.rowIs_made w (.int .u8 0) 32768 5).alloc _, fun _ _ => by omega⟩
theorem rnew_any (w : World) :
    Calls Tryd.prog 23 #[] w fun e w' => ∃ p q, e = .returned (.pointer (some ⟨p, 0, none⟩)) ∧ RefAt w' p q (fun _ => 0) ∧ w.heap.size ≤ p ∧ w.heap.size ≤ q ∧ Kept w w' := by
  have hmk := make_mem
  go_enter Tryd.func23, Tryd.ntmps23
  go_wp2
  go_ret
  exact ⟨_, _, rfl, mem_new _ w, by omega, by omega, ((Only.refl _ w).alloc _).alloc _⟩
/-- Why n bytes from a place on can't be had: 61, 60, or 0. -/
def codeI (a n : Int) : Int := if ¬ (n = 1 ∨ n = 2 ∨ n = 4 ∨ n = 8) ∨ ¬ a % n = 0 then 61 else if 32768 ≤ a then 60 else 0
theorem code_0 {a n : Int} (h1 : n = 1 ∨ n = 2 ∨ n = 4 ∨ n = 8) (h2 : a % n = 0) (h3 : a < 32768) : codeI a n = 0 := by
  unfold codeI; rw [if_neg (by rintro (h | h); exact h h1; exact h h2), if_neg (by omega)]
theorem code_60 {a n : Int} (h1 : n = 1 ∨ n = 2 ∨ n = 4 ∨ n = 8) (h2 : a % n = 0) (h3 : 32768 ≤ a) : codeI a n = 60 := by
  unfold codeI; rw [if_neg (by rintro (h | h); exact h h1; exact h h2), if_pos h3]
theorem code_61 {a n : Int} (h : ¬ (n = 1 ∨ n = 2 ∨ n = 4 ∨ n = 8) ∨ ¬ a % n = 0) : codeI a n = 61 := by
  unfold codeI; rw [if_pos h]
set_option maxHeartbeats 2000000 in
theorem rcode_any (a n : Int) (ha : U a) (w : World) (p q : Nat) (B : Nat → Int) (hm : RefAt w p q B) :
    Calls Tryd.prog 24 #[.pointer (some ⟨p, 0, none⟩), .int .u64 a, .int .i64 n] w fun e w' => e = .returned (.int .i64 (codeI a n)) ∧ Kept w w' := by
  have hc := hm.cell
  have h0 := ha.1
  clear hm ha
  by_cases hn : n = 1 ∨ n = 2 ∨ n = 4 ∨ n = 8
  · rcases hn with rfl | rfl | rfl | rfl
    all_goals
      go_enter Tryd.func24, Tryd.ntmps24
      go_wp2
      all_goals
        go_ret
        refine ⟨ret_int ?_, Only.refl _ _⟩
        go_light
        try simp only [bne_iff_ne, bne_eq_false_iff_eq, ne_eq] at *
        unfold codeI
        first | (exfalso; omega) | rw [if_pos (by omega)] | rw [if_neg (by omega), if_pos (by omega)] | rw [if_neg (by omega), if_neg (by omega)]
  · rw [code_61 (.inl hn)]
    have n1 : (n == 1) = false := beq_eq_false_iff_ne.2 (by omega)
    have n2 : (n == 2) = false := beq_eq_false_iff_ne.2 (by omega)
    have n4 : (n == 4) = false := beq_eq_false_iff_ne.2 (by omega)
    have n8 : (n == 8) = false := beq_eq_false_iff_ne.2 (by omega)
    have m1 : ¬ n = 1 := by omega
    have m2 : ¬ n = 2 := by omega
    have m4 : ¬ n = 4 := by omega
    have m8 : ¬ n = 8 := by omega
    clear hn
    go_enter Tryd.func24, Tryd.ntmps24
    go_wp2
    go_ret
    exact ⟨rfl, Only.refl _ _⟩
end Go.Proofs.YtpplclenokfpeaaDoor
namespace Go.Proofs.YtpplclenokfpeaaDoor
open Go.RowKit
/-- One byte more, from below. -/
theorem rd_step {B : Nat → Int} {a k n : Nat} (hk : k < n) (h : a + n ≤ 32768) (hn : n ≤ 8) (hb : ∀ i, i < 32768 → 0 ≤ B i ∧ B i < 256) :
    bits .or .u64 (IntKind.u64.wrap (rdF B (a + (k + 1)) (n - (k + 1)) * 256)) (B (a + k)) = rdF B (a + k) (n - k) := by
  have h1 := rd_bd (B := B) (n - (k + 1)) (a + (k + 1)) (by omega) hb
  have h2 := hb (a + k) (by omega)
  have h3 : (256 : Int) ^ (n - (k + 1)) ≤ 256 ^ 7 := by
    have hj : n - (k + 1) = 0 ∨ n - (k + 1) = 1 ∨ n - (k + 1) = 2 ∨ n - (k + 1) = 3 ∨ n - (k + 1) = 4 ∨ n - (k + 1) = 5 ∨ n - (k + 1) = 6 ∨ n - (k + 1) = 7 := by omega
    rcases hj with hj | hj | hj | hj | hj | hj | hj | hj <;> rw [hj] <;> decide
  have e : rdF B (a + k) (n - k) = B (a + k) + 256 * rdF B (a + (k + 1)) (n - (k + 1)) := by
    rw [show n - k = (n - (k + 1)) + 1 by omega, rdF, show a + k + 1 = a + (k + 1) by omega]
  generalize rdF B (a + (k + 1)) (n - (k + 1)) = v at *
  generalize B (a + k) = b at *
  have hv : v < 72057594037927936 := by omega
  rw [e, IntKind.wrap_u64, Int.emod_eq_of_lt (by omega) (by omega)]
  have hz : bits .and .u64 (v * 256) b = 0 := by
    have hU1 : U (v * 256) := by unfold U; omega
    have hU2 : U b := by unfold U; omega
    refine (U_and _ _).ext ⟨by omega, by omega⟩ fun i hi => ?_
    rw [tb_and hU1 hU2, show tb 0 i = false by simp [tb]]
    obtain ⟨V, rfl, _⟩ := (show U v by unfold U; omega).nat
    obtain ⟨C, rfl, hC⟩ := hU2.nat
    by_cases h8 : i < 8
    · rw [show tb ((V : Int) * 256) i = false by
        unfold tb
        rw [show ((V : Int) * 256).toNat = V * 2 ^ 8 by omega, Nat.testBit_mul_two_pow]
        simp [show ¬ 8 ≤ i by omega]]
      rfl
    · rw [show tb (C : Int) i = false by
        unfold tb
        rw [Int.toNat_natCast]
        exact Nat.testBit_lt_two_pow (Nat.lt_of_lt_of_le (show C < 2 ^ 8 by omega) (Nat.pow_le_pow_right (by decide) (by omega)))]
      simp
  have hs := sum_or (x := v * 256) (y := b) (by unfold U; omega) (by unfold U; omega) hz
  omega
set_option maxHeartbeats 1000000 in
theorem rread_any (a : Nat) (n : Nat) (hn : n ≤ 8) (h : a + n ≤ 32768) (w : World) (p q : Nat) (B : Nat → Int) (hm : RefAt w p q B) :
    Calls Tryd.prog 57 #[.pointer (some ⟨p, 0, none⟩), .int .u64 (a : Int), .int .i64 (n : Int)] w fun e w' => e = .returned (.int .u64 (rdF B a n)) ∧ Kept w w' := by
  have hc := hm.cell
  have hat : ∀ j, j < n → w.cell? ⟨q, a + j, none⟩ = some (.int .u8 (B (a + j))) := fun j hj => hm.at (by omega)
  have hbd := hm.byte
  clear hm
  go_enter Tryd.func57, Tryd.ntmps57
  go_wp2
  go_loopw [7, 8] (fun v i wr => ∃ k : Nat, k ≤ n ∧ v = .int .u64 (rdF B (a + k) (n - k)) ∧ i = .int .i64 ((k : Int) - 1) ∧ wr = w) (fun _ i _ => (intOf i + 1).toNat)
  case atStart => exact ⟨n, Nat.le_refl _, by rw [Nat.sub_self]; rfl, rfl, rfl⟩
  case round =>
    obtain ⟨k, hk, rfl, rfl, rfl⟩ := hrel
    cases k with
    | zero =>
      have hneg : ((0 : Nat) : Int) - 1 = -1 := by omega
      rw [hneg]
      clear hat hbd
      go_wp2
      go_ret
      exact ⟨rfl, Only.refl _ _⟩
    | succ j =>
      have hj : ((j + 1 : Nat) : Int) - 1 = (j : Int) := by omega
      rw [hj]
      have hx := hat j (by omega)
      have hst := rd_step (B := B) (a := a) (k := j) (n := n) (by omega) h hn hbd
      have b0 := (hbd (a + j) (by omega)).1
      have b1 := (hbd (a + j) (by omega)).2
      have o : ((a : Int) + (j : Int)).toNat = a + j := by omega
      clear hat hbd hj
      go_wp2
      exact ⟨⟨j, by omega, rfl, rfl, trivial⟩, by simp [intOf]⟩
end Go.Proofs.YtpplclenokfpeaaDoor
namespace Go.Proofs.YtpplclenokfpeaaDoor
open Go.RowKit
/-- The text of n bytes from a place on. -/
def textF (B : Nat → Int) (a n : Nat) : ByteArray := ((List.range n).map fun j => B (a + j)).foldl (fun r n => r.push (UInt8.ofNat n.toNat)) ByteArray.empty
/-- A piece of memory as a text. -/
theorem conv_mem {T E : TypeId} {w : World} {p q : Nat} {B : Nat → Int} (hm : MemAt T E w p q B) (a n c : Nat) (h : a + n ≤ 32768) :
    (convert 56 9 (.slice (some ⟨q, a, none⟩) n c)).run Tryd.prog w = .ok (.string (textF B a n)) w := by
  rw [run_convert_bytes_string _ 56 9 5 _ _ _ (by kernel_rfl) (by kernel_rfl) (by kernel_rfl)]
  have hl : (((List.range n).map fun j => B (a + j)).map (Value.int .u8)).length = n := by simp
  have hr := run_loadCells_list (P := Tryd.prog) w ⟨q, a, none⟩ (((List.range n).map fun j => B (a + j)).map (Value.int .u8)) (by
    intro j v hj
    have hlt : j < n := by
      have := (List.getElem?_eq_some_iff.1 hj).1
      simpa using this
    simp [hlt] at hj
    subst hj
    rw [show (⟨q, a, none⟩ : Addr).add j = ⟨q, a + j, none⟩ by simp [Addr.add]]
    exact hm.at (by omega))
  rw [hl] at hr
  rw [run_bytesToString _ _ _ _ _ hr]
  rfl
/-- A frame's text; that of none is empty. -/
def frameF (B : Nat → Int) (f : Int) : ByteArray := if 0 ≤ f ∧ f < 128 then textF B (f.toNat * 256) 256 else ByteArray.empty
end Go.Proofs.YtpplclenokfpeaaDoor
namespace Go.Proofs.YtpplclenokfpeaaDoor
open Go.RowKit
theorem lay_zero (B : Nat → Int) (a : Nat) (s : List UInt8) (i : Nat) : layF B a (s.take 0) i = B i := by
  unfold layF; rw [if_neg (by simp)]
theorem lay_step (B : Nat → Int) (a k : Nat) (s : List UInt8) (hk : k < s.length) (i : Nat) : (if i = a + k then ((s[k]).toNat : Int) else layF B a (s.take k) i) = layF B a (s.take (k + 1)) i := by
  unfold layF
  have l1 : (s.take k).length = k := by simp; omega
  have l2 : (s.take (k + 1)).length = k + 1 := by simp; omega
  rw [l1, l2]
  by_cases h : i = a + k
  · rw [if_pos h, if_pos (by omega), h, Nat.add_sub_cancel_left]
    simp [List.getD, hk]
  · rw [if_neg h]
    by_cases h2 : a ≤ i ∧ i < a + k
    · rw [if_pos h2, if_pos (by omega)]
      simp [List.getD, show i - a < k by omega, show i - a < k + 1 by omega]
    · rw [if_neg h2, if_neg (by omega)]
/-- Whether a text fits from a place on. -/
def fitsB (a : Int) (n : Nat) : Bool := decide (a ≤ 32768 ∧ (n : Int) ≤ 32768 - a)
end Go.Proofs.YtpplclenokfpeaaDoor
namespace Go.Proofs.YtpplclenokfpeaaDoor
open Go.RowKit
theorem wr_zero (B : Nat → Int) (a : Nat) (v : Int) (i : Nat) : wrF B a 0 v i = B i := by
  unfold wrF; rw [if_neg (by omega)]
theorem wr_step (B : Nat → Int) (a k : Nat) (v : Int) (i : Nat) : (if i = a + k then v / 256 ^ k % 256 else wrF B a k v i) = wrF B a (k + 1) v i := by
  unfold wrF
  by_cases h : i = a + k
  · rw [if_pos h, if_pos (by omega), h, Nat.add_sub_cancel_left]
  · rw [if_neg h]
    by_cases h2 : a ≤ i ∧ i < a + k
    · rw [if_pos h2, if_pos (by omega)]
    · rw [if_neg h2, if_neg (by omega)]
theorem pow256 (k : Nat) : (2 : Int) ^ (8 * k) = 256 ^ k := by rw [Int.pow_mul]; rfl
set_option maxHeartbeats 1000000 in
theorem rwrite_any (a : Nat) (n : Nat) (v : Int) (_hv : U v) (hn : n ≤ 8) (h : a + n ≤ 32768) (w : World) (p q : Nat) (B : Nat → Int) (hm : RefAt w p q B) :
    Calls Tryd.prog 25 #[.pointer (some ⟨p, 0, none⟩), .int .u64 (a : Int), .int .i64 (n : Int), .int .u64 v] w fun e w' => e = .returned (.tuple #[]) ∧ RefAt w' p q (wrF B a n v) ∧ Only (fun i => i = q) w w' := by
  go_enter Tryd.func25, Tryd.ntmps25
  go_wp2
  go_loopw [8] (fun i wr => ∃ k : Nat, k ≤ n ∧ i = .int .i64 (k : Int) ∧ RefAt wr p q (wrF B a k v) ∧ Only (fun i => i = q) w wr) (fun i _ => n - (intOf i).toNat)
  case atStart => exact ⟨0, Nat.zero_le _, rfl, hm.congr fun i _ => (wr_zero B a v i).symm, Only.refl _ _⟩
  case round =>
    obtain ⟨k, hk, rfl, hr, ho⟩ := hrel
    have hc := hr.cell
    by_cases hlt : k < n
    · have hx := hr.at (i := a + k) (by omega)
      have hf := hr.row.frozen (a + k)
      have o : ((a : Int) + (k : Int)).toNat = a + k := by omega
      have hset := hr.set (a + k) (v / 256 ^ k % 256) ⟨Int.emod_nonneg _ (by decide), Int.emod_lt_of_pos _ (by decide)⟩
      have hset2 := hset.congr fun i _ => wr_step B a k v i
      have ho2 := ho.setCell (x := ⟨q, a + k, none⟩) rfl (.int .u8 (v / 256 ^ k % 256))
      have hp : (2 : Int) ^ (8 * k) = 256 ^ k := pow256 k
      have ht : (8 * (k : Int)).toNat = 8 * k := by omega
      clear hr ho hset
      go_wp2
      exact ⟨⟨k + 1, by omega, by go_num, hset2, ho2⟩, by simp [intOf]; omega⟩
    · obtain rfl : k = n := by omega
      go_wp2
      go_end0
      exact ⟨rfl, hr, ho⟩
end Go.Proofs.YtpplclenokfpeaaDoor
