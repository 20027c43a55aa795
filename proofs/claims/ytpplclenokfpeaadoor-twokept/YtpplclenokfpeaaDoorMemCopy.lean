/-
  Bytes copied into memory: out of a text, out of another memory. Runs of the builtin copy, as equations; what memory holds behind them.
-/
import Derived.Test.YtpplclenokfpeaaDoorBits
import Derived.Laws.BytesString
import Derived.Laws.Cells
import Derived.Laws.CopyRow
import Derived.Deep.WholeRow
import Derived.Test.YtpplclenokfpeaaDoorMemBase
import Derived.Test.YtpplclenokfpeaaDoorRefWrite
namespace Go.Proofs.YtpplclenokfpeaaDoor
open Go.RowKit
def strOf (ns : List Int) : ByteArray := ns.foldl (fun r n => r.push (UInt8.ofNat n.toNat)) ByteArray.empty
def byteRow (v : Int) : List Int := [v % 256, v / 256 % 256, v / 65536 % 256, v / 16777216 % 256, v / 4294967296 % 256, v / 1099511627776 % 256, v / 281474976710656 % 256, v / 72057594037927936 % 256]
def bytesI (v n : Int) : ByteArray := strOf ((byteRow v).take (clamp n 0 8).toNat)
theorem conv_bytes (w : World) (c0 c1 c2 c3 c4 c5 c6 c7 : Int) (k : Nat) (hk : k ≤ 8) :
    (convert 56 9 (.slice (some { block := w.heap.size, off := 0 }) k 8)).run Tryd.prog (w.alloc (.cells #[.int .u8 c0, .int .u8 c1, .int .u8 c2, .int .u8 c3, .int .u8 c4, .int .u8 c5, .int .u8 c6, .int .u8 c7] 117))
     = .ok (.string (strOf ([c0, c1, c2, c3, c4, c5, c6, c7].take k))) (w.alloc (.cells #[.int .u8 c0, .int .u8 c1, .int .u8 c2, .int .u8 c3, .int .u8 c4, .int .u8 c5, .int .u8 c6, .int .u8 c7] 117)) := by
  rw [run_convert_bytes_string _ 56 9 5 _ _ _ (by kernel_rfl) (by kernel_rfl) (by kernel_rfl)]
  have hl : (([c0, c1, c2, c3, c4, c5, c6, c7].take k).map (Value.int .u8)).length = k := by simp; omega
  have h := run_loadCells_list (P := Tryd.prog) (w.alloc (.cells #[.int .u8 c0, .int .u8 c1, .int .u8 c2, .int .u8 c3, .int .u8 c4, .int .u8 c5, .int .u8 c6, .int .u8 c7] 117)) { block := w.heap.size, off := 0 } (([c0, c1, c2, c3, c4, c5, c6, c7].take k).map (Value.int .u8)) (by
    intro j v hj
    have hlt : j < 8 := by
      have := (List.getElem?_eq_some_iff.1 hj).1
      simp at this; omega
    have hj' : (([c0, c1, c2, c3, c4, c5, c6, c7]).map (Value.int .u8))[j]? = some v := by
      have e : (([c0, c1, c2, c3, c4, c5, c6, c7].take k).map (Value.int .u8)) = (([c0, c1, c2, c3, c4, c5, c6, c7]).map (Value.int .u8)).take k := by rw [List.map_take]
      rw [e, List.getElem?_take] at hj
      split at hj
      · exact hj
      · simp at hj
    have h8 : j = 0 ∨ j = 1 ∨ j = 2 ∨ j = 3 ∨ j = 4 ∨ j = 5 ∨ j = 6 ∨ j = 7 := by omega
    rcases h8 with rfl | rfl | rfl | rfl | rfl | rfl | rfl | rfl <;> simp at hj' <;> subst hj' <;> simp [Addr.add, go_sem])
  rw [hl] at h
  rw [run_bytesToString _ _ _ _ _ h]
  rfl
set_option maxHeartbeats 1000000 in
theorem bytes_any (v n : Int) (w : World) :
    Calls Tryd.prog 47 #[.int .u64 v, .int .i64 n] w fun e w' => e = .returned (.string (bytesI v n)) ∧ Grown w w' := by
  obtain ⟨hb1, hb2⟩ := clamp_bd n 0 8 (by omega)
  have hc := conv_bytes w (v % 256) (v / 256 % 256) (v / 65536 % 256) (v / 16777216 % 256) (v / 4294967296 % 256) (v / 1099511627776 % 256) (v / 281474976710656 % 256) (v / 72057594037927936 % 256) (clamp n 0 8).toNat (by omega)
  go_enter Tryd.func47, Tryd.ntmps47
  go_wp2
  refine wp_loop_rounds 9 ?_
  repeat (
    rw [rounds_succ]
    go_wp2_with (go_at_call 67; refine (wbelow_any _ (by omega) (by omega) _).mono ?_; rintro e w' ⟨rfl, rfl⟩))
  refine (held_any _ _ _ _).mono ?_
  rintro e w' ⟨rfl, rfl⟩
  go_wp2_with fail
  go_ret

  exact ⟨rfl, by repeat (first | exact Grown.refl _ | apply Grown.drew | apply Grown.alloc)⟩
theorem idx0 (c0 c1 c2 c3 c4 c5 c6 c7 : Int) (w : World) :
    (Instr.index 117 (.agg #[.int .u8 c0, .int .u8 c1, .int .u8 c2, .int .u8 c3, .int .u8 c4, .int .u8 c5, .int .u8 c6, .int .u8 c7]) (.int .i64 0)).run Tryd.prog w = .ok (.int .u8 c0) w := by kernel_rfl
theorem idx1 (c0 c1 c2 c3 c4 c5 c6 c7 : Int) (w : World) :
    (Instr.index 117 (.agg #[.int .u8 c0, .int .u8 c1, .int .u8 c2, .int .u8 c3, .int .u8 c4, .int .u8 c5, .int .u8 c6, .int .u8 c7]) (.int .i64 1)).run Tryd.prog w = .ok (.int .u8 c1) w := by kernel_rfl
theorem idx2 (c0 c1 c2 c3 c4 c5 c6 c7 : Int) (w : World) :
    (Instr.index 117 (.agg #[.int .u8 c0, .int .u8 c1, .int .u8 c2, .int .u8 c3, .int .u8 c4, .int .u8 c5, .int .u8 c6, .int .u8 c7]) (.int .i64 2)).run Tryd.prog w = .ok (.int .u8 c2) w := by kernel_rfl
theorem idx3 (c0 c1 c2 c3 c4 c5 c6 c7 : Int) (w : World) :
    (Instr.index 117 (.agg #[.int .u8 c0, .int .u8 c1, .int .u8 c2, .int .u8 c3, .int .u8 c4, .int .u8 c5, .int .u8 c6, .int .u8 c7]) (.int .i64 3)).run Tryd.prog w = .ok (.int .u8 c3) w := by kernel_rfl
theorem idx4 (c0 c1 c2 c3 c4 c5 c6 c7 : Int) (w : World) :
    (Instr.index 117 (.agg #[.int .u8 c0, .int .u8 c1, .int .u8 c2, .int .u8 c3, .int .u8 c4, .int .u8 c5, .int .u8 c6, .int .u8 c7]) (.int .i64 4)).run Tryd.prog w = .ok (.int .u8 c4) w := by kernel_rfl
theorem idx5 (c0 c1 c2 c3 c4 c5 c6 c7 : Int) (w : World) :
    (Instr.index 117 (.agg #[.int .u8 c0, .int .u8 c1, .int .u8 c2, .int .u8 c3, .int .u8 c4, .int .u8 c5, .int .u8 c6, .int .u8 c7]) (.int .i64 5)).run Tryd.prog w = .ok (.int .u8 c5) w := by kernel_rfl
theorem idx6 (c0 c1 c2 c3 c4 c5 c6 c7 : Int) (w : World) :
    (Instr.index 117 (.agg #[.int .u8 c0, .int .u8 c1, .int .u8 c2, .int .u8 c3, .int .u8 c4, .int .u8 c5, .int .u8 c6, .int .u8 c7]) (.int .i64 6)).run Tryd.prog w = .ok (.int .u8 c6) w := by kernel_rfl
theorem idx7 (c0 c1 c2 c3 c4 c5 c6 c7 : Int) (w : World) :
    (Instr.index 117 (.agg #[.int .u8 c0, .int .u8 c1, .int .u8 c2, .int .u8 c3, .int .u8 c4, .int .u8 c5, .int .u8 c6, .int .u8 c7]) (.int .i64 7)).run Tryd.prog w = .ok (.int .u8 c7) w := by kernel_rfl
def numW (c0 c1 c2 c3 c4 c5 c6 c7 : Int) : Int :=
  bits .or .u64 (bits .or .u64 (bits .or .u64 (bits .or .u64 (bits .or .u64 (bits .or .u64 (bits .or .u64 (bits .or .u64 0 c0) (c1 * 256)) (c2 * 65536)) (c3 * 16777216)) (c4 * 4294967296)) (c5 * 1099511627776)) (c6 * 281474976710656)) (c7 * 72057594037927936)
set_option maxHeartbeats 1000000 in
theorem number_any (c0 c1 c2 c3 c4 c5 c6 c7 : Int) (b0 : 0 ≤ c0 ∧ c0 < 256) (b1 : 0 ≤ c1 ∧ c1 < 256) (b2 : 0 ≤ c2 ∧ c2 < 256) (b3 : 0 ≤ c3 ∧ c3 < 256) (b4 : 0 ≤ c4 ∧ c4 < 256) (b5 : 0 ≤ c5 ∧ c5 < 256) (b6 : 0 ≤ c6 ∧ c6 < 256) (b7 : 0 ≤ c7 ∧ c7 < 256) (w : World) :
    Calls Tryd.prog 78 #[.agg #[.int .u8 c0, .int .u8 c1, .int .u8 c2, .int .u8 c3, .int .u8 c4, .int .u8 c5, .int .u8 c6, .int .u8 c7]] w fun e w' => e = .returned (.int .u64 (numW c0 c1 c2 c3 c4 c5 c6 c7)) ∧ Grown w w' := by
  have i0 := idx0 c0 c1 c2 c3 c4 c5 c6 c7
  have i1 := idx1 c0 c1 c2 c3 c4 c5 c6 c7
  have i2 := idx2 c0 c1 c2 c3 c4 c5 c6 c7
  have i3 := idx3 c0 c1 c2 c3 c4 c5 c6 c7
  have i4 := idx4 c0 c1 c2 c3 c4 c5 c6 c7
  have i5 := idx5 c0 c1 c2 c3 c4 c5 c6 c7
  have i6 := idx6 c0 c1 c2 c3 c4 c5 c6 c7
  have i7 := idx7 c0 c1 c2 c3 c4 c5 c6 c7
  obtain ⟨l0, u0⟩ := b0
  obtain ⟨l1, u1⟩ := b1
  obtain ⟨l2, u2⟩ := b2
  obtain ⟨l3, u3⟩ := b3
  obtain ⟨l4, u4⟩ := b4
  obtain ⟨l5, u5⟩ := b5
  obtain ⟨l6, u6⟩ := b6
  obtain ⟨l7, u7⟩ := b7
  go_enter Tryd.func78, Tryd.ntmps78
  go_wp2
  refine wp_loop_rounds 9 ?_
  repeat (
    rw [rounds_succ]
    go_wp2_with (go_at_call 67; refine (wbelow_any _ (by omega) (by omega) _).mono ?_; rintro e w' ⟨rfl, rfl⟩))
  go_ret
  exact ⟨rfl, by repeat (first | exact Grown.refl _ | apply Grown.drew | apply Grown.alloc)⟩
end Go.Proofs.YtpplclenokfpeaaDoor
namespace Go.Proofs.YtpplclenokfpeaaDoor
open Go.RowKit
def rowAfter (l : List UInt8) (m c j : Nat) : Int := if m ≤ j ∧ j < c then ((l.getD (j - m) 0).toNat : Int) else 0
theorem row_list (l : List UInt8) (m c k : Nat) (hm : m ≤ c) (hc : c ≤ 8) (hks : k ≤ l.length) (hkc : k ≤ c - m) (hkk : k = l.length ∨ k = c - m) :
    (List.replicate 8 (Value.int .u8 0)).take m ++ (l.take k).map (fun b => Value.int .u8 b.toNat) ++ (List.replicate 8 (Value.int .u8 0)).drop (m + k)
      = (List.range 8).map (fun j => Value.int .u8 (rowAfter l m c j)) := by
  apply List.ext_getElem
  · simp; omega
  · intro j h1 h2
    have hj : j < 8 := by simpa using h2
    simp only [List.getElem_map, List.getElem_range, rowAfter]
    by_cases ha : j < m
    · rw [List.getElem_append_left (by simp; omega), List.getElem_append_left (by simp; omega), if_neg (by omega)]
      simp only [List.getElem_take, List.getElem_replicate]
    · by_cases hb : j < m + k
      · rw [List.getElem_append_left (by simp; omega), List.getElem_append_right (by simp; omega), if_pos (by omega)]
        simp only [List.getElem_map, List.getElem_take, List.length_take, List.length_replicate]
        rw [List.getD_eq_getElem?_getD, List.getElem?_eq_getElem (by omega)]
        have e : min m 8 = m := by omega
        simp [e]
      · rw [List.getElem_append_right (by simp; omega)]
        simp only [List.getElem_drop, List.getElem_replicate]
        split
        · rw [List.getD_eq_getElem?_getD, List.getElem?_eq_none (by omega)]; rfl
        · rfl
theorem copy_run (w : World) (s : ByteArray) (m c dcap : Nat) (ty : TypeId) (hm : m ≤ c) (hc : c ≤ 8) :
    (Builtin.copy_ #[56, 9] ty #[.slice (some { block := w.heap.size, off := m }) (c - m) dcap, .string s]).run Tryd.prog
      (w.alloc (.cells #[.int .u8 0, .int .u8 0, .int .u8 0, .int .u8 0, .int .u8 0, .int .u8 0, .int .u8 0, .int .u8 0] 117)).drew
     = .ok (goInt (Nat.min s.size (c - m))) (w.alloc (.cells #[.int .u8 (rowAfter s.data.toList m c 0), .int .u8 (rowAfter s.data.toList m c 1), .int .u8 (rowAfter s.data.toList m c 2), .int .u8 (rowAfter s.data.toList m c 3), .int .u8 (rowAfter s.data.toList m c 4), .int .u8 (rowAfter s.data.toList m c 5), .int .u8 (rowAfter s.data.toList m c 6), .int .u8 (rowAfter s.data.toList m c 7)] 117)).drew := by
  have hu : Tryd.prog.underlying 56 = some (.slice 5) := by kernel_rfl
  have hs : (Tryd.prog.info? 5).map (·.size) = some 1 := by kernel_rfl
  have hks : Nat.min s.size (c - m) ≤ s.size := Nat.min_le_left _ _
  have hkc : Nat.min s.size (c - m) ≤ c - m := Nat.min_le_right _ _
  have hkk : Nat.min s.size (c - m) = s.size ∨ Nat.min s.size (c - m) = c - m := by
    rcases Nat.le_total s.size (c - m) with h | h
    · left; exact Nat.min_eq_left h
    · right; exact Nat.min_eq_right h
  generalize hk : Nat.min s.size (c - m) = k at *
  have hl : (((s.extract 0 k).data.map fun b => Value.int .u8 b.toNat).toList) = (s.data.toList.take k).map (fun b => Value.int .u8 b.toNat) := by
    simp [ByteArray.data_extract]
  have hlen : ((s.data.toList.take k).map (fun b => Value.int .u8 b.toNat)).length = k := by
    simp only [List.length_map, List.length_take, Array.length_toList]; exact Nat.min_eq_left hks
  have hst := run_storeCells_at Tryd.prog w.heap.size m 117 ((s.data.toList.take k).map (fun b => Value.int .u8 b.toNat)) 0 #[.int .u8 0, .int .u8 0, .int .u8 0, .int .u8 0, .int .u8 0, .int .u8 0, .int .u8 0, .int .u8 0] (w.alloc (.cells #[.int .u8 0, .int .u8 0, .int .u8 0, .int .u8 0, .int .u8 0, .int .u8 0, .int .u8 0, .int .u8 0] 117)).drew (heap_alloc_last w _) (by rw [hlen]; simp; omega) (by intro v hv; obtain ⟨a, _, rfl⟩ := List.mem_map.1 hv; rfl)
  have hr := row_list s.data.toList m c k hm hc (by simpa using hks) hkc (by simpa using hkk)
  have e0 : (#[Value.int .u8 0, .int .u8 0, .int .u8 0, .int .u8 0, .int .u8 0, .int .u8 0, .int .u8 0, .int .u8 0] : Array Value).toList = List.replicate 8 (Value.int .u8 0) := rfl
  rw [e0, hlen, Nat.add_zero, hr] at hst
  have ed : ∀ X : Array Value, (w.alloc (.cells #[.int .u8 0, .int .u8 0, .int .u8 0, .int .u8 0, .int .u8 0, .int .u8 0, .int .u8 0, .int .u8 0] 117)).drew.setRow w.heap.size X = (w.alloc (.cells X 117)).drew := fun X => by
    rw [← World.setRow_alloc_new w #[.int .u8 0, .int .u8 0, .int .u8 0, .int .u8 0, .int .u8 0, .int .u8 0, .int .u8 0, .int .u8 0] X 117]; rfl
  rw [ed] at hst
  cases hq : Tryd.prog.info? 5 with
  | none => simp [hq] at hs
  | some i =>
    have hi : i.size = 1 := by simpa [hq] using hs
    simp [Builtin.copy_, run_underlying hu, Builtin.lenOf, Builtin.firstCells, sizeOf, typeInfo, hq, hk]
    rw [← List.map_take, hst]
    rfl
def byteAt (l : List UInt8) (k : Int) : Int := if 0 ≤ k then ((l.getD k.toNat 0).toNat : Int) else 0
def gotAt (l : List UInt8) (at_ n : Int) (j : Nat) : Int := if (j : Int) < clamp n 0 8 then byteAt l (at_ + j) else 0
def getI (l : List UInt8) (at_ n : Int) : Int := numW (gotAt l at_ n 0) (gotAt l at_ n 1) (gotAt l at_ n 2) (gotAt l at_ n 3) (gotAt l at_ n 4) (gotAt l at_ n 5) (gotAt l at_ n 6) (gotAt l at_ n 7)
theorem rowAfter_bd (l : List UInt8) (m c j : Nat) : 0 ≤ rowAfter l m c j ∧ rowAfter l m c j < 256 := by
  unfold rowAfter; split
  · have := (l.getD (j - m) 0).toNat_lt; omega
  · omega
theorem row_neg (l : List UInt8) (m n : Int) (h0 : 0 < m) (j : Nat) : rowAfter l m.toNat (clamp n 0 8).toNat j = gotAt l (-m) n j := by
  obtain ⟨hb1, hb2⟩ := clamp_bd n 0 8 (by omega)
  unfold rowAfter gotAt byteAt
  by_cases h : (j : Int) < clamp n 0 8
  · by_cases h2 : 0 ≤ -m + (j : Int)
    · rw [if_pos (by omega), if_pos h, if_pos h2, show (-m + (j : Int)).toNat = j - m.toNat by omega]
    · rw [if_neg (by omega), if_pos h, if_neg h2]
  · rw [if_neg (by omega), if_neg h]
theorem row_neg0 (l : List UInt8) (n : Int) (j : Nat) : rowAfter l 0 (clamp n 0 8).toNat j = gotAt l 0 n j := by
  obtain ⟨hb1, hb2⟩ := clamp_bd n 0 8 (by omega)
  unfold rowAfter gotAt byteAt
  by_cases h : (j : Int) < clamp n 0 8
  · rw [if_pos (by omega), if_pos h, if_pos (by omega), show (0 + (j : Int)).toNat = j - 0 by omega]
  · rw [if_neg (by omega), if_neg h]
theorem row_pos0 (b : ByteArray) (a n : Int) (h0 : 0 ≤ a) (j : Nat) : rowAfter (b.extract a.toNat b.size).data.toList 0 (clamp n 0 8).toNat j = gotAt b.data.toList a n j := by
  obtain ⟨hb1, hb2⟩ := clamp_bd n 0 8 (by omega)
  have e : (b.extract a.toNat b.size).data.toList = b.data.toList.drop a.toNat := by
    rw [ByteArray.data_extract, Array.toList_extract, List.extract_eq_take_drop]
    rw [List.take_of_length_le]
    simp
  rw [e]
  unfold rowAfter gotAt byteAt
  by_cases h : (j : Int) < clamp n 0 8
  · rw [if_pos (by omega), if_pos h, if_pos (by omega), show (a + (j : Int)).toNat = a.toNat + j by omega]
    simp [List.getD_eq_getElem?_getD]
  · rw [if_neg (by omega), if_neg h]
def tailOf (b : ByteArray) (a : Int) : List UInt8 := (b.extract a.toNat b.size).data.toList
theorem copy_tail (b : ByteArray) (a : Int) (c : Nat) (hc : c ≤ 8) (w : World) :
    (Builtin.copy_ #[56, 9] 3 #[.slice (some { block := w.heap.size, off := 0 }) c 8, .string (b.extract a.toNat b.size)]).run Tryd.prog
      (w.alloc (.cells #[.int .u8 0, .int .u8 0, .int .u8 0, .int .u8 0, .int .u8 0, .int .u8 0, .int .u8 0, .int .u8 0] 117)).drew
     = .ok (goInt (Nat.min (b.extract a.toNat b.size).size c)) (w.alloc (.cells #[.int .u8 (rowAfter (tailOf b a) 0 c 0), .int .u8 (rowAfter (tailOf b a) 0 c 1), .int .u8 (rowAfter (tailOf b a) 0 c 2), .int .u8 (rowAfter (tailOf b a) 0 c 3), .int .u8 (rowAfter (tailOf b a) 0 c 4), .int .u8 (rowAfter (tailOf b a) 0 c 5), .int .u8 (rowAfter (tailOf b a) 0 c 6), .int .u8 (rowAfter (tailOf b a) 0 c 7)] 117)).drew :=
  copy_run w (b.extract a.toNat b.size) 0 c 8 3 (Nat.zero_le _) hc
theorem row_pos (b : ByteArray) (a n : Int) (h0 : 0 ≤ a) (j : Nat) : rowAfter (tailOf b a) 0 (clamp n 0 8).toNat j = gotAt b.data.toList a n j := row_pos0 b a n h0 j
theorem num_zero : numW 0 0 0 0 0 0 0 0 = 0 := by decide +kernel
theorem got_no (l : List UInt8) (a n : Int) (h : a ≤ - clamp n 0 8 ∨ (l.length : Int) ≤ a) (j : Nat) : gotAt l a n j = 0 := by
  obtain ⟨hb1, hb2⟩ := clamp_bd n 0 8 (by omega)
  unfold gotAt byteAt
  split
  · split
    · rw [List.getD_eq_getElem?_getD, List.getElem?_eq_none (by omega)]; rfl
    · rfl
  · rfl
theorem get_zero (l : List UInt8) (a n : Int) (h : a ≤ - clamp n 0 8 ∨ (l.length : Int) ≤ a) : getI l a n = 0 := by
  unfold getI
  simp only [got_no l a n h]
  exact num_zero
set_option maxHeartbeats 1000000 in
theorem get_no1 (b : ByteArray) (at_ n : Int) (h : at_ ≤ - clamp n 0 8) (w : World) :
    Calls Tryd.prog 74 #[.string b, .int .i64 at_, .int .i64 n] w fun e w' => e = .returned (.int .u64 0) ∧ Grown w w' := by
  obtain ⟨hb1, hb2⟩ := clamp_bd n 0 8 (by omega)
  go_enter Tryd.func74, Tryd.ntmps74
  go_wp2_with (go_at_call 68; refine (held_any _ _ _ _).mono ?_; rintro e w' ⟨rfl, rfl⟩)
  go_ret
  exact ⟨rfl, Grown.refl _⟩
set_option maxHeartbeats 1000000 in
theorem get_no2 (b : ByteArray) (at_ n : Int) (h : ¬ at_ ≤ - clamp n 0 8) (h2 : (b.size : Int) ≤ at_) (w : World) :
    Calls Tryd.prog 74 #[.string b, .int .i64 at_, .int .i64 n] w fun e w' => e = .returned (.int .u64 0) ∧ Grown w w' := by
  obtain ⟨hb1, hb2⟩ := clamp_bd n 0 8 (by omega)
  go_enter Tryd.func74, Tryd.ntmps74
  go_wp2_with (go_at_call 68; refine (held_any _ _ _ _).mono ?_; rintro e w' ⟨rfl, rfl⟩)
  go_ret
  exact ⟨rfl, Grown.refl _⟩
set_option maxHeartbeats 1000000 in
theorem get_neg (b : ByteArray) (m n : Int) (hx0 : 0 ≤ m) (hx1 : 0 < m) (hx : m ≤ clamp n 0 8) (h1 : - clamp n 0 8 < -m) (h2 : -m < b.size) (w : World) :
    Calls Tryd.prog 74 #[.string b, .int .i64 (-m), .int .i64 n] w fun e w' => e = .returned (.int .u64 (getI b.data.toList (-m) n)) ∧ Grown w w' := by
  obtain ⟨hb1, hb2⟩ := clamp_bd n 0 8 (by omega)
  have hcp := fun w => copy_run w b m.toNat (clamp n 0 8).toNat (8 - m.toNat) 3 (by omega) (by omega)
  have HG : Hid (getI b.data.toList (-m) n = numW (rowAfter b.data.toList m.toNat (clamp n 0 8).toNat 0) (rowAfter b.data.toList m.toNat (clamp n 0 8).toNat 1) (rowAfter b.data.toList m.toNat (clamp n 0 8).toNat 2) (rowAfter b.data.toList m.toNat (clamp n 0 8).toNat 3) (rowAfter b.data.toList m.toNat (clamp n 0 8).toNat 4) (rowAfter b.data.toList m.toNat (clamp n 0 8).toNat 5) (rowAfter b.data.toList m.toNat (clamp n 0 8).toNat 6) (rowAfter b.data.toList m.toNat (clamp n 0 8).toNat 7)) := by
    show _ = _
    simp only [row_neg _ _ _ hx1]; rfl
  go_enter Tryd.func74, Tryd.ntmps74
  go_wp2_with (go_at_call 68; refine (held_any _ _ _ _).mono ?_; rintro e w' ⟨rfl, rfl⟩)
  go_region
  clear hcp
  go_wp2_with fail
  refine (number_any _ _ _ _ _ _ _ _ (rowAfter_bd _ _ _ _) (rowAfter_bd _ _ _ _) (rowAfter_bd _ _ _ _) (rowAfter_bd _ _ _ _) (rowAfter_bd _ _ _ _) (rowAfter_bd _ _ _ _) (rowAfter_bd _ _ _ _) (rowAfter_bd _ _ _ _) _).mono ?_
  rintro e w1 ⟨rfl, hg⟩
  go_wp2
  go_ret
  exact ⟨ret_int (show _ = _ from HG).symm, Grown.trans' (by repeat (first | exact Grown.refl _ | apply Grown.drew | apply Grown.alloc)) hg⟩
set_option maxHeartbeats 1000000 in
theorem get_pos (b : ByteArray) (a n : Int) (hx0 : 0 ≤ a) (hx1 : 0 < a) (hx2 : a ≤ 9223372036854775807) (h1 : - clamp n 0 8 < a) (h2 : a < b.size) (w : World) :
    Calls Tryd.prog 74 #[.string b, .int .i64 a, .int .i64 n] w fun e w' => e = .returned (.int .u64 (getI b.data.toList a n)) ∧ Grown w w' := by
  obtain ⟨hb1, hb2⟩ := clamp_bd n 0 8 (by omega)
  have hcp := copy_tail b a (clamp n 0 8).toNat (by omega)
  have HG : Hid (getI b.data.toList a n = numW (rowAfter (tailOf b a) 0 (clamp n 0 8).toNat 0) (rowAfter (tailOf b a) 0 (clamp n 0 8).toNat 1) (rowAfter (tailOf b a) 0 (clamp n 0 8).toNat 2) (rowAfter (tailOf b a) 0 (clamp n 0 8).toNat 3) (rowAfter (tailOf b a) 0 (clamp n 0 8).toNat 4) (rowAfter (tailOf b a) 0 (clamp n 0 8).toNat 5) (rowAfter (tailOf b a) 0 (clamp n 0 8).toNat 6) (rowAfter (tailOf b a) 0 (clamp n 0 8).toNat 7)) := by
    show _ = _
    simp only [row_pos b a n hx0]; rfl
  go_enter Tryd.func74, Tryd.ntmps74
  go_wp2_with (go_at_call 68; refine (held_any _ _ _ _).mono ?_; rintro e w' ⟨rfl, rfl⟩)
  go_region
  clear hcp
  go_wp2_with fail
  refine (number_any _ _ _ _ _ _ _ _ (rowAfter_bd _ _ _ _) (rowAfter_bd _ _ _ _) (rowAfter_bd _ _ _ _) (rowAfter_bd _ _ _ _) (rowAfter_bd _ _ _ _) (rowAfter_bd _ _ _ _) (rowAfter_bd _ _ _ _) (rowAfter_bd _ _ _ _) _).mono ?_
  rintro e w1 ⟨rfl, hg⟩
  go_wp2
  go_ret
  exact ⟨ret_int (show _ = _ from HG).symm, Grown.trans' (by repeat (first | exact Grown.refl _ | apply Grown.drew | apply Grown.alloc)) hg⟩
set_option maxHeartbeats 1000000 in
theorem get_at0 (b : ByteArray) (n : Int) (h1 : 0 < clamp n 0 8) (h2 : ¬ b = ByteArray.empty) (w : World) :
    Calls Tryd.prog 74 #[.string b, .int .i64 0, .int .i64 n] w fun e w' => e = .returned (.int .u64 (getI b.data.toList 0 n)) ∧ Grown w w' := by
  obtain ⟨hb1, hb2⟩ := clamp_bd n 0 8 (by omega)
  have hcp := fun w => copy_run w b 0 (clamp n 0 8).toNat 8 3 (by omega) (by omega)
  simp only [Nat.sub_zero] at hcp
  have HG : Hid (getI b.data.toList 0 n = numW (rowAfter b.data.toList 0 (clamp n 0 8).toNat 0) (rowAfter b.data.toList 0 (clamp n 0 8).toNat 1) (rowAfter b.data.toList 0 (clamp n 0 8).toNat 2) (rowAfter b.data.toList 0 (clamp n 0 8).toNat 3) (rowAfter b.data.toList 0 (clamp n 0 8).toNat 4) (rowAfter b.data.toList 0 (clamp n 0 8).toNat 5) (rowAfter b.data.toList 0 (clamp n 0 8).toNat 6) (rowAfter b.data.toList 0 (clamp n 0 8).toNat 7)) := by
    show _ = _
    simp only [row_neg0]; rfl
  go_enter Tryd.func74, Tryd.ntmps74
  go_wp2_with (go_at_call 68; refine (held_any _ _ _ _).mono ?_; rintro e w' ⟨rfl, rfl⟩)
  go_region
  clear hcp
  go_wp2_with fail
  refine (number_any _ _ _ _ _ _ _ _ (rowAfter_bd _ _ _ _) (rowAfter_bd _ _ _ _) (rowAfter_bd _ _ _ _) (rowAfter_bd _ _ _ _) (rowAfter_bd _ _ _ _) (rowAfter_bd _ _ _ _) (rowAfter_bd _ _ _ _) (rowAfter_bd _ _ _ _) _).mono ?_
  rintro e w1 ⟨rfl, hg⟩
  go_wp2
  go_ret
  exact ⟨ret_int (show _ = _ from HG).symm, Grown.trans' (by repeat (first | exact Grown.refl _ | apply Grown.drew | apply Grown.alloc)) hg⟩
theorem get_any (b : ByteArray) (a n : Int) (ha : a ≤ 9223372036854775807) (w : World) :
    Calls Tryd.prog 74 #[.string b, .int .i64 a, .int .i64 n] w fun e w' => e = .returned (.int .u64 (getI b.data.toList a n)) ∧ Grown w w' := by
  obtain ⟨hb1, hb2⟩ := clamp_bd n 0 8 (by omega)
  have hs : (b.data.toList.length : Int) = b.size := by simp
  by_cases h1 : a ≤ - clamp n 0 8
  · rw [get_zero _ _ _ (Or.inl h1)]; exact get_no1 b a n h1 w
  · by_cases h2 : (b.size : Int) ≤ a
    · rw [get_zero _ _ _ (Or.inr (by omega))]; exact get_no2 b a n h1 h2 w
    · by_cases h3 : 0 < a
      · exact get_pos b a n (by omega) h3 ha (by omega) (by omega) w
      by_cases h4 : a = 0
      · subst h4; exact get_at0 b n (by omega) (fun e => h2 (by rw [e]; decide)) w
      · have := get_neg b (-a) n (by omega) (by omega) (by omega) (by omega) (by omega) w
        rwa [Int.neg_neg] at this
end Go.Proofs.YtpplclenokfpeaaDoor
namespace Go.Proofs.YtpplclenokfpeaaDoor
open Go.RowKit
theorem str_fold (ns : List Int) : ∀ b : ByteArray, (ns.foldl (fun r n => r.push (UInt8.ofNat n.toNat)) b).data.toList = b.data.toList ++ ns.map (fun n => UInt8.ofNat n.toNat) := by
  induction ns with
  | nil => intro b; simp
  | cons n ns ih => intro b; rw [List.foldl_cons, ih]; simp
theorem str_list (ns : List Int) : (strOf ns).data.toList = ns.map (fun n => UInt8.ofNat n.toNat) := by
  unfold strOf; rw [str_fold]; rfl
def bvI (v : Int) (j : Nat) : Int := v / 2 ^ (8 * j) % 256
theorem byteRow_eq (v : Int) : byteRow v = (List.range 8).map (bvI v) := by
  simp [byteRow, bvI, List.range_succ]
theorem bv_bd (v : Int) (j : Nat) : 0 ≤ bvI v j ∧ bvI v j < 256 := by unfold bvI; omega
theorem byte_back (x : Int) (h : 0 ≤ x ∧ x < 256) : ((UInt8.ofNat x.toNat).toNat : Int) = x := by
  simp only [UInt8.toNat_ofNat']; omega
theorem byteAt_bytes (v n k : Int) : byteAt (bytesI v n).data.toList k = if 0 ≤ k ∧ k < clamp n 0 8 then bvI v k.toNat else 0 := by
  obtain ⟨hb1, hb2⟩ := clamp_bd n 0 8 (by omega)
  unfold bytesI byteAt
  rw [str_list, byteRow_eq]
  by_cases h0 : 0 ≤ k
  · rw [if_pos h0]
    by_cases h1 : k < clamp n 0 8
    · rw [if_pos ⟨h0, h1⟩, List.getD_eq_getElem?_getD, List.getElem?_eq_getElem (by simp; omega)]
      simp only [List.getElem_map, List.getElem_take, List.getElem_range, Option.getD_some]
      exact byte_back _ (bv_bd _ _)
    · rw [if_neg (by omega), List.getD_eq_getElem?_getD, List.getElem?_eq_none (by simp; omega)]; rfl
  · rw [if_neg h0, if_neg (by omega)]
theorem tb_byte (x : Int) (h : 0 ≤ x ∧ x < 256) (i : Nat) (hi : 8 ≤ i) : tb x i = false := by
  unfold tb
  exact Nat.testBit_lt_two_pow (Nat.lt_of_lt_of_le (show x.toNat < 2 ^ 8 by omega) (Nat.pow_le_pow_right (by decide) hi))
theorem tb_mul {c : Int} (h : 0 ≤ c ∧ c < 256) (s i : Nat) : tb (c * 2 ^ s) i = (decide (s ≤ i) && tb c (i - s)) := by
  obtain ⟨C, rfl⟩ := Int.eq_ofNat_of_zero_le h.1
  have e : (C : Int) * 2 ^ s = ((C * 2 ^ s : Nat) : Int) := by simp
  rw [e]
  simp only [tb, Int.toNat_natCast]
  rw [Nat.testBit_mul_two_pow]
theorem U_mul {c : Int} (h : 0 ≤ c ∧ c < 256) (s : Nat) (hs : s ≤ 56) : U (c * 2 ^ s) := by
  obtain ⟨C, rfl⟩ := Int.eq_ofNat_of_zero_le h.1
  have e : (C : Int) * 2 ^ s = ((C * 2 ^ s : Nat) : Int) := by simp
  have hp : 2 ^ s ≤ 2 ^ 56 := Nat.pow_le_pow_right (by decide) hs
  have hm : C * 2 ^ s ≤ 255 * 2 ^ 56 := Nat.mul_le_mul (by omega) hp
  rw [e]
  exact ⟨by omega, by omega⟩
theorem or_at_top {x c : Int} (k : Nat) (hk : k ≤ 56) (h0 : 0 ≤ x) (h1 : x < 2 ^ k) (hc : 0 ≤ c ∧ c < 256) : bits .or .u64 x (c * 2 ^ k) = x + c * 2 ^ k := by
  have hp : (2 : Int) ^ k ≤ 2 ^ 56 := by
    have : (2 : Nat) ^ k ≤ 2 ^ 56 := Nat.pow_le_pow_right (by decide) hk
    exact_mod_cast this
  have hU : U x := by unfold U; omega
  refine sum_or hU (U_mul hc k hk) ?_
  refine (U_and _ _).ext ⟨by omega, by omega⟩ fun i hi => ?_
  rw [tb_and hU (U_mul hc k hk), tb_mul hc, show tb 0 i = false by simp [tb]]
  by_cases h : k ≤ i
  · obtain ⟨X, rfl, _⟩ := hU.nat
    have hX : X < 2 ^ k := by exact_mod_cast h1
    rw [show tb (X : Int) i = false from Nat.testBit_lt_two_pow (Nat.lt_of_lt_of_le hX (Nat.pow_le_pow_right (by decide) h))]
    rfl
  · rw [decide_eq_false h]; simp
theorem num_sum {c0 c1 c2 c3 c4 c5 c6 c7 : Int} (b0 : 0 ≤ c0 ∧ c0 < 256) (b1 : 0 ≤ c1 ∧ c1 < 256) (b2 : 0 ≤ c2 ∧ c2 < 256) (b3 : 0 ≤ c3 ∧ c3 < 256) (b4 : 0 ≤ c4 ∧ c4 < 256) (b5 : 0 ≤ c5 ∧ c5 < 256) (b6 : 0 ≤ c6 ∧ c6 < 256) (b7 : 0 ≤ c7 ∧ c7 < 256) :
    numW c0 c1 c2 c3 c4 c5 c6 c7 = c0 + 256 * (c1 + 256 * (c2 + 256 * (c3 + 256 * (c4 + 256 * (c5 + 256 * (c6 + 256 * c7)))))) := by
  have e0 : bits .or .u64 0 c0 = c0 := by have := or_at_top (x := 0) 0 (by decide) (by omega) (by decide) b0; simpa using this
  have e1 := or_at_top (x := c0) 8 (by decide) (by omega) (by omega) b1
  have e2 := or_at_top (x := c0 + c1 * 2 ^ 8) 16 (by decide) (by omega) (by omega) b2
  have e3 := or_at_top (x := c0 + c1 * 2 ^ 8 + c2 * 2 ^ 16) 24 (by decide) (by omega) (by omega) b3
  have e4 := or_at_top (x := c0 + c1 * 2 ^ 8 + c2 * 2 ^ 16 + c3 * 2 ^ 24) 32 (by decide) (by omega) (by omega) b4
  have e5 := or_at_top (x := c0 + c1 * 2 ^ 8 + c2 * 2 ^ 16 + c3 * 2 ^ 24 + c4 * 2 ^ 32) 40 (by decide) (by omega) (by omega) b5
  have e6 := or_at_top (x := c0 + c1 * 2 ^ 8 + c2 * 2 ^ 16 + c3 * 2 ^ 24 + c4 * 2 ^ 32 + c5 * 2 ^ 40) 48 (by decide) (by omega) (by omega) b6
  have e7 := or_at_top (x := c0 + c1 * 2 ^ 8 + c2 * 2 ^ 16 + c3 * 2 ^ 24 + c4 * 2 ^ 32 + c5 * 2 ^ 40 + c6 * 2 ^ 48) 56 (by decide) (by omega) (by omega) b7
  unfold numW
  rw [show (256 : Int) = 2 ^ 8 from rfl, show (65536 : Int) = 2 ^ 16 from rfl, show (16777216 : Int) = 2 ^ 24 from rfl, show (4294967296 : Int) = 2 ^ 32 from rfl, show (1099511627776 : Int) = 2 ^ 40 from rfl, show (281474976710656 : Int) = 2 ^ 48 from rfl, show (72057594037927936 : Int) = 2 ^ 56 from rfl]
  rw [e0, e1, e2, e3, e4, e5, e6, e7]
  omega
theorem text_list (B : Nat → Int) (a n : Nat) : (textF B a n).data.toList = (List.range n).map fun j => UInt8.ofNat (B (a + j)).toNat := by
  unfold textF
  rw [str_fold]
  simp
theorem got_text {B : Nat → Int} {a n : Nat} (hn : n ≤ 8) (h : a + n ≤ 32768) (hb : ∀ i, i < 32768 → 0 ≤ B i ∧ B i < 256) (j : Nat) : gotAt (textF B a n).data.toList 0 (n : Int) j = if j < n then B (a + j) else 0 := by
  unfold gotAt byteAt
  rw [text_list, show clamp (n : Int) 0 8 = n by unfold clamp; split <;> split <;> omega]
  by_cases hj : j < n
  · rw [if_pos (by omega), if_pos (by omega), if_pos hj, show ((0 : Int) + (j : Int)).toNat = j by omega]
    rw [List.getD_eq_getElem?_getD, List.getElem?_eq_getElem (by simpa using hj)]
    simp only [List.getElem_map, List.getElem_range, Option.getD_some]
    exact byte_back _ (hb _ (by omega))
  · rw [if_neg (by omega), if_neg hj]
theorem get_text {B : Nat → Int} {a n : Nat} (hn : n = 1 ∨ n = 2 ∨ n = 4 ∨ n = 8) (h : a + n ≤ 32768) (hb : ∀ i, i < 32768 → 0 ≤ B i ∧ B i < 256) : getI (textF B a n).data.toList 0 (n : Int) = rdF B a n := by
  have g := got_text (B := B) (a := a) (n := n) (by omega) h hb
  have bd : ∀ j, 0 ≤ (if j < n then B (a + j) else 0) ∧ (if j < n then B (a + j) else 0) < 256 := fun j => by
    split
    · exact hb _ (by omega)
    · omega
  unfold getI
  rw [g 0, g 1, g 2, g 3, g 4, g 5, g 6, g 7, num_sum (bd 0) (bd 1) (bd 2) (bd 3) (bd 4) (bd 5) (bd 6) (bd 7)]
  rcases hn with rfl | rfl | rfl | rfl <;> simp [rdF, Nat.add_assoc]
end Go.Proofs.YtpplclenokfpeaaDoor
namespace Go.Proofs.YtpplclenokfpeaaDoor
open Go.RowKit
/-- Memory behind new bytes in a row of it. -/
theorem mem_splice {T E : TypeId} {w : World} {p q : Nat} {B : Nat → Int} (hm : MemAt T E w p q B) (cur : Array Value) (hcur : w.heap[q]? = some (.cells cur E (0, 0))) (a n : Nat) (h : a + n ≤ 32768) (vs : List Value) (hl : vs.length = n) (C : Nat → Int)
    (hv : ∀ j, j < n → vs[j]? = some (.int .u8 (C (a + j)))) (hC : ∀ j, j < 32768 → 0 ≤ C j ∧ C j < 256) (ho : ∀ j, j < 32768 → ¬ (a ≤ j ∧ j < a + n) → C j = B j) :
    MemAt T E (w.setRow q (cur.toList.take a ++ vs ++ cur.toList.drop (a + n)).toArray) p q C := by
  obtain ⟨c, hb, hs, hcs⟩ := hm.row
  rw [hcur] at hb
  obtain rfl : cur = c := by simpa using hb
  refine ⟨?_, ⟨_, setRow_heap w q cur _ E (0, 0) hcur, by simp [hs, hl]; omega, fun i hi => ?_⟩, hC⟩
  · rw [setRow_other w q p _ hm.ne]; exact hm.obj
  · rw [List.getElem?_toArray]
    by_cases h1 : i < a
    · rw [List.getElem?_append_left (by simp [hs, hl]; omega), List.getElem?_append_left (by simp [hs]; omega), List.getElem?_take, if_pos h1, Array.getElem?_toList, hcs i hi]
      simp only [ho i hi (by omega)]
    · by_cases h2 : i < a + n
      · rw [List.getElem?_append_left (by simp [hs, hl]; omega), List.getElem?_append_right (by simp [hs]; omega)]
        have e : i - (cur.toList.take a).length = i - a := by simp [hs]; omega
        rw [e, hv (i - a) (by omega), show a + (i - a) = i by omega]
      · rw [List.getElem?_append_right (by simp [hs, hl]; omega), List.getElem?_drop, Array.getElem?_toList]
        have e : a + n + (i - (cur.toList.take a ++ vs).length) = i := by simp [hs, hl]; omega
        rw [e, hcs i hi]
        simp only [ho i hi (by omega)]
/-- A text copied into memory. -/
theorem copy_text {T : TypeId} {w : World} {p q : Nat} {B : Nat → Int} (hm : MemAt T 5 w p q B) (a c : Nat) (s : ByteArray) (h : a + s.size ≤ 32768) :
    ∃ R, (Builtin.copy_ #[56, 9] 3 #[.slice (some ⟨q, a, none⟩) (32768 - a) c, .string s]).run Tryd.prog w = .ok (goInt s.size) (w.setRow q R) ∧ MemAt T 5 (w.setRow q R) p q (layF B a s.data.toList) := by
  have hu : Tryd.prog.underlying 56 = some (.slice 5) := by kernel_rfl
  have hs : (Tryd.prog.info? 5).map (·.size) = some 1 := by kernel_rfl
  obtain ⟨cur, hb, hsz, _⟩ := hm.row
  have hk : Nat.min s.size (32768 - a) = s.size := Nat.min_eq_left (by omega)
  have hlen : (s.data.toList.map (fun b => Value.int .u8 b.toNat)).length = s.size := by simp
  have hst := run_storeCells_at Tryd.prog q a 5 (s.data.toList.map (fun b => Value.int .u8 b.toNat)) 0 cur w hb (by rw [hlen, hsz]; omega) (by
    intro v hv
    obtain ⟨b, _, rfl⟩ := List.mem_map.1 hv
    rfl)
  rw [hlen, Nat.add_zero] at hst
  refine ⟨_, ?_, mem_splice hm cur hb a s.size h (s.data.toList.map (fun b => Value.int .u8 b.toNat)) hlen (layF B a s.data.toList) (fun j hj => ?_) (fun j hj => ?_) (fun j hj hn => ?_)⟩
  · cases hq : Tryd.prog.info? 5 with
    | none => simp [hq] at hs
    | some i =>
      have hi : i.size = 1 := by simpa [hq] using hs
      simp [Builtin.copy_, run_underlying hu, Builtin.lenOf, Builtin.firstCells, sizeOf, typeInfo, hq, hk]
      rw [List.take_of_length_le (by rw [hlen]; exact Nat.le_refl _), hst]
      simp
  · unfold layF
    have hj' : j < s.data.toList.length := by simpa using hj
    rw [if_pos ⟨by omega, by omega⟩, List.getElem?_map, List.getElem?_eq_getElem hj', Nat.add_sub_cancel_left, List.getD_eq_getElem?_getD, List.getElem?_eq_getElem hj']
    rfl
  · unfold layF
    split
    · have := (s.data.toList.getD (j - a) 0).toNat_lt; omega
    · exact hm.byte j hj
  · unfold layF
    rw [if_neg (by simpa using hn)]
/-- Memory copied into another one, all of it. -/
theorem copy_mem {T T' : TypeId} {w : World} {p q p' q' : Nat} {B C : Nat → Int} (hm : MemAt T 5 w p q B) (hn : MemAt T' 5 w p' q' C) :
    ∃ R, (Builtin.copy_ #[56, 56] 3 #[.slice (some ⟨q, 0, none⟩) 32768 32768, .slice (some ⟨q', 0, none⟩) 32768 32768]).run Tryd.prog w = .ok (goInt 32768) (w.setRow q R) ∧ MemAt T 5 (w.setRow q R) p q C := by
  have hu : Tryd.prog.underlying 56 = some (.slice 5) := by kernel_rfl
  have hs : (Tryd.prog.info? 5).map (·.size) = some 1 := by kernel_rfl
  obtain ⟨cur, hb, hsz, _⟩ := hm.row
  have hlen : ((List.range 32768).map (fun j => Value.int .u8 (C j))).length = 32768 := by simp
  have hc := run_copy_row Tryd.prog w 56 56 3 5 q 0 32768 32768 ⟨q', 0, none⟩ 32768 32768 cur 5 ((List.range 32768).map (fun j => Value.int .u8 (C j))) hu hs hb (by rw [hlen]; rfl) (by
    intro j v hj
    have hlt : j < 32768 := by
      have := (List.getElem?_eq_some_iff.1 hj).1
      rwa [hlen] at this
    rw [List.getElem?_map, List.getElem?_range hlt] at hj
    obtain rfl := Option.some.inj hj
    rw [show (⟨q', 0, none⟩ : Addr).add j = ⟨q', j, none⟩ by unfold Addr.add; split <;> simp_all]
    exact hn.at hlt) (by rw [hlen, hsz]; exact Nat.le_refl _) (by
    intro v hv
    obtain ⟨b, _, rfl⟩ := List.mem_map.1 hv
    rfl)
  rw [hlen] at hc
  exact ⟨_, hc, mem_splice hm cur hb 0 32768 (Nat.le_refl _) _ hlen C (fun j hj => by rw [List.getElem?_map, List.getElem?_range hj, Nat.zero_add]; rfl) hn.byte (fun j hj h => absurd ⟨Nat.zero_le _, by omega⟩ h)⟩
theorem lay_bytes {B : Nat → Int} {a n : Nat} (hn : n ≤ 8) (v : Int) (i : Nat) : layF B a (bytesI v (n : Int)).data.toList i = wrF B a n v i := by
  have hcl : clamp (n : Int) 0 8 = n := by unfold clamp; split <;> split <;> omega
  have hlen : (bytesI v (n : Int)).data.toList.length = n := by
    unfold bytesI
    rw [str_list, hcl]
    simp [byteRow]
    omega
  unfold layF wrF
  rw [hlen]
  by_cases h : a ≤ i ∧ i < a + n
  · rw [if_pos h, if_pos h]
    have e := byteAt_bytes v (n : Int) ((i - a : Nat) : Int)
    rw [hcl, if_pos (by omega)] at e
    unfold byteAt at e
    rw [if_pos (by omega), Int.toNat_natCast] at e
    rw [e]
    unfold bvI
    rw [show (2 : Int) ^ (8 * (i - a)) = 256 ^ (i - a) by rw [Int.pow_mul]; rfl]
  · rw [if_neg h, if_neg h]
theorem bytes_size {n : Nat} (hn : n ≤ 8) (v : Int) : (bytesI v (n : Int)).size = n := by
  have hcl : clamp (n : Int) 0 8 = n := by unfold clamp; split <;> split <;> omega
  have e : (bytesI v (n : Int)).data.toList.length = n := by
    unfold bytesI
    rw [str_list, hcl]
    simp [byteRow]
    omega
  simpa using e
end Go.Proofs.YtpplclenokfpeaaDoor
