/-
  What the call Get of package word does: walked whole, for every text, place and number of bytes.
-/
import Derived.Test.YtpplclenokfpeaaDoorRowy
import Derived.Laws.CopyRow
import Derived.Deep.WholeRow
namespace Go.Proofs.YtpplclenokfpeaaDoor
open Go.RowKit
def rowAfter (l : List UInt8) (m c j : Nat) : Int := if m ≤ j ∧ j < c then ((l.getD (j - m) 0).toNat : Int) else 0
theorem row_list (l : List UInt8) (m c k : Nat) (hm : m ≤ c) (hc : c ≤ 8) (hks : k ≤ l.length) (hkc : k ≤ c - m) (hkk : k = l.length ∨ k = c - m) :
    (List.replicate 8 (Value.int .u8 0)).take m ++ (l.take k).map (fun b => Value.int .u8 b.toNat) ++ (List.replicate 8 (Value.int .u8 0)).drop (m + k)
      = (List.range 8).map (fun j => Value.int .u8 (rowAfter l m c j)) := by
  apply List.ext_getElem
  · simp; omega
  · intro j h1 h2
    have hj : j < 8 := by simpa using h2
    simp only [List.getElem_map, List.getElem_range, rowAfter]
    by_cases ha : j < m
    · rw [List.getElem_append_left (by simp; omega), List.getElem_append_left (by simp; omega), if_neg (by omega)]
      simp only [List.getElem_take, List.getElem_replicate]
    · by_cases hb : j < m + k
      · rw [List.getElem_append_left (by simp; omega), List.getElem_append_right (by simp; omega), if_pos (by omega)]
        simp only [List.getElem_map, List.getElem_take, List.length_take, List.length_replicate]
        rw [List.getD_eq_getElem?_getD, List.getElem?_eq_getElem (by omega)]
        have e : min m 8 = m := by omega
        simp [e]
      · rw [List.getElem_append_right (by simp; omega)]
        simp only [List.getElem_drop, List.getElem_replicate]
        split
        · rw [List.getD_eq_getElem?_getD, List.getElem?_eq_none (by omega)]; rfl
        · rfl
theorem copy_run (w : World) (s : ByteArray) (m c dcap : Nat) (ty : TypeId) (hm : m ≤ c) (hc : c ≤ 8) :
    (Builtin.copy_ #[56, 9] ty #[.slice (some { block := w.heap.size, off := m }) (c - m) dcap, .string s]).run Tryd.prog
      (w.alloc (.cells #[.int .u8 0, .int .u8 0, .int .u8 0, .int .u8 0, .int .u8 0, .int .u8 0, .int .u8 0, .int .u8 0] 117)).drew
     = .ok (goInt (Nat.min s.size (c - m))) (w.alloc (.cells #[.int .u8 (rowAfter s.data.toList m c 0), .int .u8 (rowAfter s.data.toList m c 1), .int .u8 (rowAfter s.data.toList m c 2), .int .u8 (rowAfter s.data.toList m c 3), .int .u8 (rowAfter s.data.toList m c 4), .int .u8 (rowAfter s.data.toList m c 5), .int .u8 (rowAfter s.data.toList m c 6), .int .u8 (rowAfter s.data.toList m c 7)] 117)).drew := by
  have hu : Tryd.prog.underlying 56 = some (.slice 5) := by kernel_rfl
  have hs : (Tryd.prog.info? 5).map (·.size) = some 1 := by kernel_rfl
  have hks : Nat.min s.size (c - m) ≤ s.size := Nat.min_le_left _ _
  have hkc : Nat.min s.size (c - m) ≤ c - m := Nat.min_le_right _ _
  have hkk : Nat.min s.size (c - m) = s.size ∨ Nat.min s.size (c - m) = c - m := by
    rcases Nat.le_total s.size (c - m) with h | h
    · left; exact Nat.min_eq_left h
    · right; exact Nat.min_eq_right h
  generalize hk : Nat.min s.size (c - m) = k at *
  have hl : (((s.extract 0 k).data.map fun b => Value.int .u8 b.toNat).toList) = (s.data.toList.take k).map (fun b => Value.int .u8 b.toNat) := by
    simp [ByteArray.data_extract]
  have hlen : ((s.data.toList.take k).map (fun b => Value.int .u8 b.toNat)).length = k := by
    simp only [List.length_map, List.length_take, Array.length_toList]; exact Nat.min_eq_left hks
  have hst := run_storeCells_at Tryd.prog w.heap.size m 117 ((s.data.toList.take k).map (fun b => Value.int .u8 b.toNat)) 0 #[.int .u8 0, .int .u8 0, .int .u8 0, .int .u8 0, .int .u8 0, .int .u8 0, .int .u8 0, .int .u8 0] (w.alloc (.cells #[.int .u8 0, .int .u8 0, .int .u8 0, .int .u8 0, .int .u8 0, .int .u8 0, .int .u8 0, .int .u8 0] 117)).drew (heap_alloc_last w _) (by rw [hlen]; simp; omega) (by intro v hv; obtain ⟨a, _, rfl⟩ := List.mem_map.1 hv; rfl)
  have hr := row_list s.data.toList m c k hm hc (by simpa using hks) hkc (by simpa using hkk)
  have e0 : (#[Value.int .u8 0, .int .u8 0, .int .u8 0, .int .u8 0, .int .u8 0, .int .u8 0, .int .u8 0, .int .u8 0] : Array Value).toList = List.replicate 8 (Value.int .u8 0) := rfl
  rw [e0, hlen, Nat.add_zero, hr] at hst
  have ed : ∀ X : Array Value, (w.alloc (.cells #[.int .u8 0, .int .u8 0, .int .u8 0, .int .u8 0, .int .u8 0, .int .u8 0, .int .u8 0, .int .u8 0] 117)).drew.setRow w.heap.size X = (w.alloc (.cells X 117)).drew := fun X => by
    rw [← World.setRow_alloc_new w #[.int .u8 0, .int .u8 0, .int .u8 0, .int .u8 0, .int .u8 0, .int .u8 0, .int .u8 0, .int .u8 0] X 117]; rfl
  rw [ed] at hst
  cases hq : Tryd.prog.info? 5 with
  | none => simp [hq] at hs
  | some i =>
    have hi : i.size = 1 := by simpa [hq] using hs
    simp [Builtin.copy_, run_underlying hu, Builtin.lenOf, Builtin.firstCells, sizeOf, typeInfo, hq, hk]
    rw [← List.map_take, hst]
    rfl
def byteAt (l : List UInt8) (k : Int) : Int := if 0 ≤ k then ((l.getD k.toNat 0).toNat : Int) else 0
def gotAt (l : List UInt8) (at_ n : Int) (j : Nat) : Int := if (j : Int) < clamp n 0 8 then byteAt l (at_ + j) else 0
def getI (l : List UInt8) (at_ n : Int) : Int := numW (gotAt l at_ n 0) (gotAt l at_ n 1) (gotAt l at_ n 2) (gotAt l at_ n 3) (gotAt l at_ n 4) (gotAt l at_ n 5) (gotAt l at_ n 6) (gotAt l at_ n 7)
theorem rowAfter_bd (l : List UInt8) (m c j : Nat) : 0 ≤ rowAfter l m c j ∧ rowAfter l m c j < 256 := by
  unfold rowAfter; split
  · have := (l.getD (j - m) 0).toNat_lt; omega
  · omega
theorem row_neg (l : List UInt8) (m n : Int) (h0 : 0 < m) (j : Nat) : rowAfter l m.toNat (clamp n 0 8).toNat j = gotAt l (-m) n j := by
  obtain ⟨hb1, hb2⟩ := clamp_bd n 0 8 (by omega)
  unfold rowAfter gotAt byteAt
  by_cases h : (j : Int) < clamp n 0 8
  · by_cases h2 : 0 ≤ -m + (j : Int)
    · rw [if_pos (by omega), if_pos h, if_pos h2, show (-m + (j : Int)).toNat = j - m.toNat by omega]
    · rw [if_neg (by omega), if_pos h, if_neg h2]
  · rw [if_neg (by omega), if_neg h]
theorem row_neg0 (l : List UInt8) (n : Int) (j : Nat) : rowAfter l 0 (clamp n 0 8).toNat j = gotAt l 0 n j := by
  obtain ⟨hb1, hb2⟩ := clamp_bd n 0 8 (by omega)
  unfold rowAfter gotAt byteAt
  by_cases h : (j : Int) < clamp n 0 8
  · rw [if_pos (by omega), if_pos h, if_pos (by omega), show (0 + (j : Int)).toNat = j - 0 by omega]
  · rw [if_neg (by omega), if_neg h]
theorem row_pos0 (b : ByteArray) (a n : Int) (h0 : 0 ≤ a) (j : Nat) : rowAfter (b.extract a.toNat b.size).data.toList 0 (clamp n 0 8).toNat j = gotAt b.data.toList a n j := by
  obtain ⟨hb1, hb2⟩ := clamp_bd n 0 8 (by omega)
  have e : (b.extract a.toNat b.size).data.toList = b.data.toList.drop a.toNat := by
    rw [ByteArray.data_extract, Array.toList_extract, List.extract_eq_take_drop]
    rw [List.take_of_length_le]
    simp
  rw [e]
  unfold rowAfter gotAt byteAt
  by_cases h : (j : Int) < clamp n 0 8
  · rw [if_pos (by omega), if_pos h, if_pos (by omega), show (a + (j : Int)).toNat = a.toNat + j by omega]
    simp [List.getD_eq_getElem?_getD]
  · rw [if_neg (by omega), if_neg h]
def tailOf (b : ByteArray) (a : Int) : List UInt8 := (b.extract a.toNat b.size).data.toList
theorem copy_tail (b : ByteArray) (a : Int) (c : Nat) (hc : c ≤ 8) (w : World) :
    (Builtin.copy_ #[56, 9] 3 #[.slice (some { block := w.heap.size, off := 0 }) c 8, .string (b.extract a.toNat b.size)]).run Tryd.prog
      (w.alloc (.cells #[.int .u8 0, .int .u8 0, .int .u8 0, .int .u8 0, .int .u8 0, .int .u8 0, .int .u8 0, .int .u8 0] 117)).drew
     = .ok (goInt (Nat.min (b.extract a.toNat b.size).size c)) (w.alloc (.cells #[.int .u8 (rowAfter (tailOf b a) 0 c 0), .int .u8 (rowAfter (tailOf b a) 0 c 1), .int .u8 (rowAfter (tailOf b a) 0 c 2), .int .u8 (rowAfter (tailOf b a) 0 c 3), .int .u8 (rowAfter (tailOf b a) 0 c 4), .int .u8 (rowAfter (tailOf b a) 0 c 5), .int .u8 (rowAfter (tailOf b a) 0 c 6), .int .u8 (rowAfter (tailOf b a) 0 c 7)] 117)).drew :=
  copy_run w (b.extract a.toNat b.size) 0 c 8 3 (Nat.zero_le _) hc
theorem row_pos (b : ByteArray) (a n : Int) (h0 : 0 ≤ a) (j : Nat) : rowAfter (tailOf b a) 0 (clamp n 0 8).toNat j = gotAt b.data.toList a n j := row_pos0 b a n h0 j
theorem num_zero : numW 0 0 0 0 0 0 0 0 = 0 := by decide +kernel
theorem got_no (l : List UInt8) (a n : Int) (h : a ≤ - clamp n 0 8 ∨ (l.length : Int) ≤ a) (j : Nat) : gotAt l a n j = 0 := by
  obtain ⟨hb1, hb2⟩ := clamp_bd n 0 8 (by omega)
  unfold gotAt byteAt
  split
  · split
    · rw [List.getD_eq_getElem?_getD, List.getElem?_eq_none (by omega)]; rfl
    · rfl
  · rfl
theorem get_zero (l : List UInt8) (a n : Int) (h : a ≤ - clamp n 0 8 ∨ (l.length : Int) ≤ a) : getI l a n = 0 := by
  unfold getI
  simp only [got_no l a n h]
  exact num_zero
set_option maxHeartbeats 1000000 in
theorem get_no1 (b : ByteArray) (at_ n : Int) (h : at_ ≤ - clamp n 0 8) (w : World) :
    Calls Tryd.prog 74 #[.string b, .int .i64 at_, .int .i64 n] w fun e w' => e = .returned (.int .u64 0) ∧ Grown w w' := by
  obtain ⟨hb1, hb2⟩ := clamp_bd n 0 8 (by omega)
  go_enter Tryd.func74, Tryd.ntmps74
  go_wp2_with (go_at_call 68; refine (held_any _ _ _ _).mono ?_; rintro e w' ⟨rfl, rfl⟩)
  go_ret
  exact ⟨rfl, Grown.refl _⟩
set_option maxHeartbeats 1000000 in
theorem get_no2 (b : ByteArray) (at_ n : Int) (h : ¬ at_ ≤ - clamp n 0 8) (h2 : (b.size : Int) ≤ at_) (w : World) :
    Calls Tryd.prog 74 #[.string b, .int .i64 at_, .int .i64 n] w fun e w' => e = .returned (.int .u64 0) ∧ Grown w w' := by
  obtain ⟨hb1, hb2⟩ := clamp_bd n 0 8 (by omega)
  go_enter Tryd.func74, Tryd.ntmps74
  go_wp2_with (go_at_call 68; refine (held_any _ _ _ _).mono ?_; rintro e w' ⟨rfl, rfl⟩)
  go_ret
  exact ⟨rfl, Grown.refl _⟩
set_option maxHeartbeats 1000000 in
theorem get_neg (b : ByteArray) (m n : Int) (hx0 : 0 ≤ m) (hx1 : 0 < m) (hx : m ≤ clamp n 0 8) (h1 : - clamp n 0 8 < -m) (h2 : -m < b.size) (w : World) :
    Calls Tryd.prog 74 #[.string b, .int .i64 (-m), .int .i64 n] w fun e w' => e = .returned (.int .u64 (getI b.data.toList (-m) n)) ∧ Grown w w' := by
  obtain ⟨hb1, hb2⟩ := clamp_bd n 0 8 (by omega)
  have hcp := fun w => copy_run w b m.toNat (clamp n 0 8).toNat (8 - m.toNat) 3 (by omega) (by omega)
  have HG : Hid (getI b.data.toList (-m) n = numW (rowAfter b.data.toList m.toNat (clamp n 0 8).toNat 0) (rowAfter b.data.toList m.toNat (clamp n 0 8).toNat 1) (rowAfter b.data.toList m.toNat (clamp n 0 8).toNat 2) (rowAfter b.data.toList m.toNat (clamp n 0 8).toNat 3) (rowAfter b.data.toList m.toNat (clamp n 0 8).toNat 4) (rowAfter b.data.toList m.toNat (clamp n 0 8).toNat 5) (rowAfter b.data.toList m.toNat (clamp n 0 8).toNat 6) (rowAfter b.data.toList m.toNat (clamp n 0 8).toNat 7)) := by
    show _ = _
    simp only [row_neg _ _ _ hx1]; rfl
  go_enter Tryd.func74, Tryd.ntmps74
  go_wp2_with (go_at_call 68; refine (held_any _ _ _ _).mono ?_; rintro e w' ⟨rfl, rfl⟩)
  go_region
  clear hcp
  go_wp2_with fail
  refine (number_any _ _ _ _ _ _ _ _ (rowAfter_bd _ _ _ _) (rowAfter_bd _ _ _ _) (rowAfter_bd _ _ _ _) (rowAfter_bd _ _ _ _) (rowAfter_bd _ _ _ _) (rowAfter_bd _ _ _ _) (rowAfter_bd _ _ _ _) (rowAfter_bd _ _ _ _) _).mono ?_
  rintro e w1 ⟨rfl, hg⟩
  go_wp2
  go_ret
  exact ⟨ret_int (show _ = _ from HG).symm, Grown.trans' (by repeat (first | exact Grown.refl _ | apply Grown.drew | apply Grown.alloc)) hg⟩
set_option maxHeartbeats 1000000 in
theorem get_pos (b : ByteArray) (a n : Int) (hx0 : 0 ≤ a) (hx1 : 0 < a) (hx2 : a ≤ 9223372036854775807) (h1 : - clamp n 0 8 < a) (h2 : a < b.size) (w : World) :
    Calls Tryd.prog 74 #[.string b, .int .i64 a, .int .i64 n] w fun e w' => e = .returned (.int .u64 (getI b.data.toList a n)) ∧ Grown w w' := by
  obtain ⟨hb1, hb2⟩ := clamp_bd n 0 8 (by omega)
  have hcp := copy_tail b a (clamp n 0 8).toNat (by omega)
  have HG : Hid (getI b.data.toList a n = numW (rowAfter (tailOf b a) 0 (clamp n 0 8).toNat 0) (rowAfter (tailOf b a) 0 (clamp n 0 8).toNat 1) (rowAfter (tailOf b a) 0 (clamp n 0 8).toNat 2) (rowAfter (tailOf b a) 0 (clamp n 0 8).toNat 3) (rowAfter (tailOf b a) 0 (clamp n 0 8).toNat 4) (rowAfter (tailOf b a) 0 (clamp n 0 8).toNat 5) (rowAfter (tailOf b a) 0 (clamp n 0 8).toNat 6) (rowAfter (tailOf b a) 0 (clamp n 0 8).toNat 7)) := by
    show _ = _
    simp only [row_pos b a n hx0]; rfl
  go_enter Tryd.func74, Tryd.ntmps74
  go_wp2_with (go_at_call 68; refine (held_any _ _ _ _).mono ?_; rintro e w' ⟨rfl, rfl⟩)
  go_region
  clear hcp
  go_wp2_with fail
  refine (number_any _ _ _ _ _ _ _ _ (rowAfter_bd _ _ _ _) (rowAfter_bd _ _ _ _) (rowAfter_bd _ _ _ _) (rowAfter_bd _ _ _ _) (rowAfter_bd _ _ _ _) (rowAfter_bd _ _ _ _) (rowAfter_bd _ _ _ _) (rowAfter_bd _ _ _ _) _).mono ?_
  rintro e w1 ⟨rfl, hg⟩
  go_wp2
  go_ret
  exact ⟨ret_int (show _ = _ from HG).symm, Grown.trans' (by repeat (first | exact Grown.refl _ | apply Grown.drew | apply Grown.alloc)) hg⟩
set_option maxHeartbeats 1000000 in
theorem get_at0 (b : ByteArray) (n : Int) (h1 : 0 < clamp n 0 8) (h2 : ¬ b = ByteArray.empty) (w : World) :
    Calls Tryd.prog 74 #[.string b, .int .i64 0, .int .i64 n] w fun e w' => e = .returned (.int .u64 (getI b.data.toList 0 n)) ∧ Grown w w' := by
  obtain ⟨hb1, hb2⟩ := clamp_bd n 0 8 (by omega)
  have hcp := fun w => copy_run w b 0 (clamp n 0 8).toNat 8 3 (by omega) (by omega)
  simp only [Nat.sub_zero] at hcp
  have HG : Hid (getI b.data.toList 0 n = numW (rowAfter b.data.toList 0 (clamp n 0 8).toNat 0) (rowAfter b.data.toList 0 (clamp n 0 8).toNat 1) (rowAfter b.data.toList 0 (clamp n 0 8).toNat 2) (rowAfter b.data.toList 0 (clamp n 0 8).toNat 3) (rowAfter b.data.toList 0 (clamp n 0 8).toNat 4) (rowAfter b.data.toList 0 (clamp n 0 8).toNat 5) (rowAfter b.data.toList 0 (clamp n 0 8).toNat 6) (rowAfter b.data.toList 0 (clamp n 0 8).toNat 7)) := by
    show _ = _
    simp only [row_neg0]; rfl
  go_enter Tryd.func74, Tryd.ntmps74
  go_wp2_with (go_at_call 68; refine (held_any _ _ _ _).mono ?_; rintro e w' ⟨rfl, rfl⟩)
  go_region
  clear hcp
  go_wp2_with fail
  refine (number_any _ _ _ _ _ _ _ _ (rowAfter_bd _ _ _ _) (rowAfter_bd _ _ _ _) (rowAfter_bd _ _ _ _) (rowAfter_bd _ _ _ _) (rowAfter_bd _ _ _ _) (rowAfter_bd _ _ _ _) (rowAfter_bd _ _ _ _) (rowAfter_bd _ _ _ _) _).mono ?_
  rintro e w1 ⟨rfl, hg⟩
  go_wp2
  go_ret
  exact ⟨ret_int (show _ = _ from HG).symm, Grown.trans' (by repeat (first | exact Grown.refl _ | apply Grown.drew | apply Grown.alloc)) hg⟩
theorem get_any (b : ByteArray) (a n : Int) (ha : a ≤ 9223372036854775807) (w : World) :
    Calls Tryd.prog 74 #[.string b, .int .i64 a, .int .i64 n] w fun e w' => e = .returned (.int .u64 (getI b.data.toList a n)) ∧ Grown w w' := by
  obtain ⟨hb1, hb2⟩ := clamp_bd n 0 8 (by omega)
  have hs : (b.data.toList.length : Int) = b.size := by simp
  by_cases h1 : a ≤ - clamp n 0 8
  · rw [get_zero _ _ _ (Or.inl h1)]; exact get_no1 b a n h1 w
  · by_cases h2 : (b.size : Int) ≤ a
    · rw [get_zero _ _ _ (Or.inr (by omega))]; exact get_no2 b a n h1 h2 w
    · by_cases h3 : 0 < a
      · exact get_pos b a n (by omega) h3 ha (by omega) (by omega) w
      by_cases h4 : a = 0
      · subst h4; exact get_at0 b n (by omega) (fun e => h2 (by rw [e]; decide)) w
      · have := get_neg b (-a) n (by omega) (by omega) (by omega) (by omega) (by omega) w
        rwa [Int.neg_neg] at this
end Go.Proofs.YtpplclenokfpeaaDoor
