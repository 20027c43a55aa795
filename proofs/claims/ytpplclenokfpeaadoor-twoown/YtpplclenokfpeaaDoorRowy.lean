/-
  What the calls Bytes and number of package word do: walked whole, for every argument.
-/
import Derived.Test.YtpplclenokfpeaaDoorPlain
import Derived.Laws.BytesString
import Derived.Laws.Cells
namespace Go.Proofs.YtpplclenokfpeaaDoor
open Go.RowKit
def strOf (ns : List Int) : ByteArray := ns.foldl (fun r n => r.push (UInt8.ofNat n.toNat)) ByteArray.empty
def byteRow (v : Int) : List Int := [v % 256, v / 256 % 256, v / 65536 % 256, v / 16777216 % 256, v / 4294967296 % 256, v / 1099511627776 % 256, v / 281474976710656 % 256, v / 72057594037927936 % 256]
def bytesI (v n : Int) : ByteArray := strOf ((byteRow v).take (clamp n 0 8).toNat)
theorem conv_bytes (w : World) (c0 c1 c2 c3 c4 c5 c6 c7 : Int) (k : Nat) (hk : k ≤ 8) :
    (convert 56 9 (.slice (some { block := w.heap.size, off := 0 }) k 8)).run Tryd.prog (w.alloc (.cells #[.int .u8 c0, .int .u8 c1, .int .u8 c2, .int .u8 c3, .int .u8 c4, .int .u8 c5, .int .u8 c6, .int .u8 c7] 117))
     = .ok (.string (strOf ([c0, c1, c2, c3, c4, c5, c6, c7].take k))) (w.alloc (.cells #[.int .u8 c0, .int .u8 c1, .int .u8 c2, .int .u8 c3, .int .u8 c4, .int .u8 c5, .int .u8 c6, .int .u8 c7] 117)) := by
  rw [run_convert_bytes_string _ 56 9 5 _ _ _ (by kernel_rfl) (by kernel_rfl) (by kernel_rfl)]
  have hl : (([c0, c1, c2, c3, c4, c5, c6, c7].take k).map (Value.int .u8)).length = k := by simp; omega
  have h := run_loadCells_list (P := Tryd.prog) (w.alloc (.cells #[.int .u8 c0, .int .u8 c1, .int .u8 c2, .int .u8 c3, .int .u8 c4, .int .u8 c5, .int .u8 c6, .int .u8 c7] 117)) { block := w.heap.size, off := 0 } (([c0, c1, c2, c3, c4, c5, c6, c7].take k).map (Value.int .u8)) (by
    intro j v hj
    have hlt : j < 8 := by
      have := (List.getElem?_eq_some_iff.1 hj).1
      simp at this; omega
    have hj' : (([c0, c1, c2, c3, c4, c5, c6, c7]).map (Value.int .u8))[j]? = some v := by
      have e : (([c0, c1, c2, c3, c4, c5, c6, c7].take k).map (Value.int .u8)) = (([c0, c1, c2, c3, c4, c5, c6, c7]).map (Value.int .u8)).take k := by rw [List.map_take]
      rw [e, List.getElem?_take] at hj
      split at hj
      · exact hj
      · simp at hj
    have h8 : j = 0 ∨ j = 1 ∨ j = 2 ∨ j = 3 ∨ j = 4 ∨ j = 5 ∨ j = 6 ∨ j = 7 := by omega
    rcases h8 with rfl | rfl | rfl | rfl | rfl | rfl | rfl | rfl <;> simp at hj' <;> subst hj' <;> simp [Addr.add, go_sem])
  rw [hl] at h
  rw [run_bytesToString _ _ _ _ _ h]
  rfl
set_option maxHeartbeats 1000000 in
theorem bytes_any (v n : Int) (w : World) :
    Calls Tryd.prog 47 #[.int .u64 v, .int .i64 n] w fun e w' => e = .returned (.string (bytesI v n)) ∧ Grown w w' := by
  obtain ⟨hb1, hb2⟩ := clamp_bd n 0 8 (by omega)
  have hc := conv_bytes w (v % 256) (v / 256 % 256) (v / 65536 % 256) (v / 16777216 % 256) (v / 4294967296 % 256) (v / 1099511627776 % 256) (v / 281474976710656 % 256) (v / 72057594037927936 % 256) (clamp n 0 8).toNat (by omega)
  go_enter Tryd.func47, Tryd.ntmps47
  go_wp2
  refine wp_loop_rounds 9 ?_
  repeat (
    rw [rounds_succ]
    go_wp2_with (go_at_call 67; refine (wbelow_any _ (by omega) (by omega) _).mono ?_; rintro e w' ⟨rfl, rfl⟩))
  refine (held_any _ _ _ _).mono ?_
  rintro e w' ⟨rfl, rfl⟩
  go_wp2_with fail
  go_ret

  exact ⟨rfl, by repeat (first | exact Grown.refl _ | apply Grown.drew | apply Grown.alloc)⟩
theorem idx0 (c0 c1 c2 c3 c4 c5 c6 c7 : Int) (w : World) :
    (Instr.index 117 (.agg #[.int .u8 c0, .int .u8 c1, .int .u8 c2, .int .u8 c3, .int .u8 c4, .int .u8 c5, .int .u8 c6, .int .u8 c7]) (.int .i64 0)).run Tryd.prog w = .ok (.int .u8 c0) w := by kernel_rfl
theorem idx1 (c0 c1 c2 c3 c4 c5 c6 c7 : Int) (w : World) :
    (Instr.index 117 (.agg #[.int .u8 c0, .int .u8 c1, .int .u8 c2, .int .u8 c3, .int .u8 c4, .int .u8 c5, .int .u8 c6, .int .u8 c7]) (.int .i64 1)).run Tryd.prog w = .ok (.int .u8 c1) w := by kernel_rfl
theorem idx2 (c0 c1 c2 c3 c4 c5 c6 c7 : Int) (w : World) :
    (Instr.index 117 (.agg #[.int .u8 c0, .int .u8 c1, .int .u8 c2, .int .u8 c3, .int .u8 c4, .int .u8 c5, .int .u8 c6, .int .u8 c7]) (.int .i64 2)).run Tryd.prog w = .ok (.int .u8 c2) w := by kernel_rfl
theorem idx3 (c0 c1 c2 c3 c4 c5 c6 c7 : Int) (w : World) :
    (Instr.index 117 (.agg #[.int .u8 c0, .int .u8 c1, .int .u8 c2, .int .u8 c3, .int .u8 c4, .int .u8 c5, .int .u8 c6, .int .u8 c7]) (.int .i64 3)).run Tryd.prog w = .ok (.int .u8 c3) w := by kernel_rfl
theorem idx4 (c0 c1 c2 c3 c4 c5 c6 c7 : Int) (w : World) :
    (Instr.index 117 (.agg #[.int .u8 c0, .int .u8 c1, .int .u8 c2, .int .u8 c3, .int .u8 c4, .int .u8 c5, .int .u8 c6, .int .u8 c7]) (.int .i64 4)).run Tryd.prog w = .ok (.int .u8 c4) w := by kernel_rfl
theorem idx5 (c0 c1 c2 c3 c4 c5 c6 c7 : Int) (w : World) :
    (Instr.index 117 (.agg #[.int .u8 c0, .int .u8 c1, .int .u8 c2, .int .u8 c3, .int .u8 c4, .int .u8 c5, .int .u8 c6, .int .u8 c7]) (.int .i64 5)).run Tryd.prog w = .ok (.int .u8 c5) w := by kernel_rfl
theorem idx6 (c0 c1 c2 c3 c4 c5 c6 c7 : Int) (w : World) :
    (Instr.index 117 (.agg #[.int .u8 c0, .int .u8 c1, .int .u8 c2, .int .u8 c3, .int .u8 c4, .int .u8 c5, .int .u8 c6, .int .u8 c7]) (.int .i64 6)).run Tryd.prog w = .ok (.int .u8 c6) w := by kernel_rfl
theorem idx7 (c0 c1 c2 c3 c4 c5 c6 c7 : Int) (w : World) :
    (Instr.index 117 (.agg #[.int .u8 c0, .int .u8 c1, .int .u8 c2, .int .u8 c3, .int .u8 c4, .int .u8 c5, .int .u8 c6, .int .u8 c7]) (.int .i64 7)).run Tryd.prog w = .ok (.int .u8 c7) w := by kernel_rfl
def numW (c0 c1 c2 c3 c4 c5 c6 c7 : Int) : Int :=
  bits .or .u64 (bits .or .u64 (bits .or .u64 (bits .or .u64 (bits .or .u64 (bits .or .u64 (bits .or .u64 (bits .or .u64 0 c0) (c1 * 256)) (c2 * 65536)) (c3 * 16777216)) (c4 * 4294967296)) (c5 * 1099511627776)) (c6 * 281474976710656)) (c7 * 72057594037927936)
set_option maxHeartbeats 1000000 in
theorem number_any (c0 c1 c2 c3 c4 c5 c6 c7 : Int) (b0 : 0 ≤ c0 ∧ c0 < 256) (b1 : 0 ≤ c1 ∧ c1 < 256) (b2 : 0 ≤ c2 ∧ c2 < 256) (b3 : 0 ≤ c3 ∧ c3 < 256) (b4 : 0 ≤ c4 ∧ c4 < 256) (b5 : 0 ≤ c5 ∧ c5 < 256) (b6 : 0 ≤ c6 ∧ c6 < 256) (b7 : 0 ≤ c7 ∧ c7 < 256) (w : World) :
    Calls Tryd.prog 78 #[.agg #[.int .u8 c0, .int .u8 c1, .int .u8 c2, .int .u8 c3, .int .u8 c4, .int .u8 c5, .int .u8 c6, .int .u8 c7]] w fun e w' => e = .returned (.int .u64 (numW c0 c1 c2 c3 c4 c5 c6 c7)) ∧ Grown w w' := by
  have i0 := idx0 c0 c1 c2 c3 c4 c5 c6 c7
  have i1 := idx1 c0 c1 c2 c3 c4 c5 c6 c7
  have i2 := idx2 c0 c1 c2 c3 c4 c5 c6 c7
  have i3 := idx3 c0 c1 c2 c3 c4 c5 c6 c7
  have i4 := idx4 c0 c1 c2 c3 c4 c5 c6 c7
  have i5 := idx5 c0 c1 c2 c3 c4 c5 c6 c7
  have i6 := idx6 c0 c1 c2 c3 c4 c5 c6 c7
  have i7 := idx7 c0 c1 c2 c3 c4 c5 c6 c7
  obtain ⟨l0, u0⟩ := b0
  obtain ⟨l1, u1⟩ := b1
  obtain ⟨l2, u2⟩ := b2
  obtain ⟨l3, u3⟩ := b3
  obtain ⟨l4, u4⟩ := b4
  obtain ⟨l5, u5⟩ := b5
  obtain ⟨l6, u6⟩ := b6
  obtain ⟨l7, u7⟩ := b7
  go_enter Tryd.func78, Tryd.ntmps78
  go_wp2
  refine wp_loop_rounds 9 ?_
  repeat (
    rw [rounds_succ]
    go_wp2_with (go_at_call 67; refine (wbelow_any _ (by omega) (by omega) _).mono ?_; rintro e w' ⟨rfl, rfl⟩))
  go_ret
  exact ⟨rfl, by repeat (first | exact Grown.refl _ | apply Grown.drew | apply Grown.alloc)⟩
end Go.Proofs.YtpplclenokfpeaaDoor
