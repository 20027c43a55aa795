/-
  Bytes copied into memory: out of a text, out of another memory. Runs of the builtin copy, as equations; what memory holds behind them.
-/
import Derived.Test.YtpplclenokfpeaaDoorMemMath
import Derived.Laws.CopyRow
namespace Go.Proofs.YtpplclenokfpeaaDoor
open Go.RowKit
/-- Memory behind new bytes in a row of it. -/
theorem mem_splice {T E : TypeId} {w : World} {p q : Nat} {B : Nat → Int} (hm : MemAt T E w p q B) (cur : Array Value) (hcur : w.heap[q]? = some (.cells cur E (0, 0))) (a n : Nat) (h : a + n ≤ 32768) (vs : List Value) (hl : vs.length = n) (C : Nat → Int)
    (hv : ∀ j, j < n → vs[j]? = some (.int .u8 (C (a + j)))) (hC : ∀ j, j < 32768 → 0 ≤ C j ∧ C j < 256) (ho : ∀ j, j < 32768 → ¬ (a ≤ j ∧ j < a + n) → C j = B j) :
    MemAt T E (w.setRow q (cur.toList.take a ++ vs ++ cur.toList.drop (a + n)).toArray) p q C := by
  obtain ⟨c, hb, hs, hcs⟩ := hm.row
  rw [hcur] at hb
  obtain rfl : cur = c := by simpa using hb
  refine ⟨?_, ⟨_, setRow_heap w q cur _ E (0, 0) hcur, by simp [hs, hl]; omega, fun i hi => ?_⟩, hC⟩
  · rw [setRow_other w q p _ hm.ne]; exact hm.obj
  · rw [List.getElem?_toArray]
    by_cases h1 : i < a
    · rw [List.getElem?_append_left (by simp [hs, hl]; omega), List.getElem?_append_left (by simp [hs]; omega), List.getElem?_take, if_pos h1, Array.getElem?_toList, hcs i hi]
      simp only [ho i hi (by omega)]
    · by_cases h2 : i < a + n
      · rw [List.getElem?_append_left (by simp [hs, hl]; omega), List.getElem?_append_right (by simp [hs]; omega)]
        have e : i - (cur.toList.take a).length = i - a := by simp [hs]; omega
        rw [e, hv (i - a) (by omega), show a + (i - a) = i by omega]
      · rw [List.getElem?_append_right (by simp [hs, hl]; omega), List.getElem?_drop, Array.getElem?_toList]
        have e : a + n + (i - (cur.toList.take a ++ vs).length) = i := by simp [hs, hl]; omega
        rw [e, hcs i hi]
        simp only [ho i hi (by omega)]
/-- A text copied into memory. -/
theorem copy_text {T : TypeId} {w : World} {p q : Nat} {B : Nat → Int} (hm : MemAt T 5 w p q B) (a c : Nat) (s : ByteArray) (h : a + s.size ≤ 32768) :
    ∃ R, (Builtin.copy_ #[56, 9] 3 #[.slice (some ⟨q, a, none⟩) (32768 - a) c, .string s]).run Tryd.prog w = .ok (goInt s.size) (w.setRow q R) ∧ MemAt T 5 (w.setRow q R) p q (layF B a s.data.toList) := by
  have hu : Tryd.prog.underlying 56 = some (.slice 5) := by kernel_rfl
  have hs : (Tryd.prog.info? 5).map (·.size) = some 1 := by kernel_rfl
  obtain ⟨cur, hb, hsz, _⟩ := hm.row
  have hk : Nat.min s.size (32768 - a) = s.size := Nat.min_eq_left (by omega)
  have hlen : (s.data.toList.map (fun b => Value.int .u8 b.toNat)).length = s.size := by simp
  have hst := run_storeCells_at Tryd.prog q a 5 (s.data.toList.map (fun b => Value.int .u8 b.toNat)) 0 cur w hb (by rw [hlen, hsz]; omega) (by
    intro v hv
    obtain ⟨b, _, rfl⟩ := List.mem_map.1 hv
    rfl)
  rw [hlen, Nat.add_zero] at hst
  refine ⟨_, ?_, mem_splice hm cur hb a s.size h (s.data.toList.map (fun b => Value.int .u8 b.toNat)) hlen (layF B a s.data.toList) (fun j hj => ?_) (fun j hj => ?_) (fun j hj hn => ?_)⟩
  · cases hq : Tryd.prog.info? 5 with
    | none => simp [hq] at hs
    | some i =>
      have hi : i.size = 1 := by simpa [hq] using hs
      simp [Builtin.copy_, run_underlying hu, Builtin.lenOf, Builtin.firstCells, sizeOf, typeInfo, hq, hk]
      rw [List.take_of_length_le (by rw [hlen]; exact Nat.le_refl _), hst]
      simp
  · unfold layF
    have hj' : j < s.data.toList.length := by simpa using hj
    rw [if_pos ⟨by omega, by omega⟩, List.getElem?_map, List.getElem?_eq_getElem hj', Nat.add_sub_cancel_left, List.getD_eq_getElem?_getD, List.getElem?_eq_getElem hj']
    rfl
  · unfold layF
    split
    · have := (s.data.toList.getD (j - a) 0).toNat_lt; omega
    · exact hm.byte j hj
  · unfold layF
    rw [if_neg (by simpa using hn)]
/-- Memory copied into another one, all of it. -/
theorem copy_mem {T T' : TypeId} {w : World} {p q p' q' : Nat} {B C : Nat → Int} (hm : MemAt T 5 w p q B) (hn : MemAt T' 5 w p' q' C) :
    ∃ R, (Builtin.copy_ #[56, 56] 3 #[.slice (some ⟨q, 0, none⟩) 32768 32768, .slice (some ⟨q', 0, none⟩) 32768 32768]).run Tryd.prog w = .ok (goInt 32768) (w.setRow q R) ∧ MemAt T 5 (w.setRow q R) p q C := by
  have hu : Tryd.prog.underlying 56 = some (.slice 5) := by kernel_rfl
  have hs : (Tryd.prog.info? 5).map (·.size) = some 1 := by kernel_rfl
  obtain ⟨cur, hb, hsz, _⟩ := hm.row
  have hlen : ((List.range 32768).map (fun j => Value.int .u8 (C j))).length = 32768 := by simp
  have hc := run_copy_row Tryd.prog w 56 56 3 5 q 0 32768 32768 ⟨q', 0, none⟩ 32768 32768 cur 5 ((List.range 32768).map (fun j => Value.int .u8 (C j))) hu hs hb (by rw [hlen]; rfl) (by
    intro j v hj
    have hlt : j < 32768 := by
      have := (List.getElem?_eq_some_iff.1 hj).1
      rwa [hlen] at this
    rw [List.getElem?_map, List.getElem?_range hlt] at hj
    obtain rfl := Option.some.inj hj
    rw [show (⟨q', 0, none⟩ : Addr).add j = ⟨q', j, none⟩ by unfold Addr.add; split <;> simp_all]
    exact hn.at hlt) (by rw [hlen, hsz]; exact Nat.le_refl _) (by
    intro v hv
    obtain ⟨b, _, rfl⟩ := List.mem_map.1 hv
    rfl)
  rw [hlen] at hc
  exact ⟨_, hc, mem_splice hm cur hb 0 32768 (Nat.le_refl _) _ hlen C (fun j hj => by rw [List.getElem?_map, List.getElem?_range hj, Nat.zero_add]; rfl) hn.byte (fun j hj h => absurd ⟨Nat.zero_le _, by omega⟩ h)⟩
theorem lay_bytes {B : Nat → Int} {a n : Nat} (hn : n ≤ 8) (v : Int) (i : Nat) : layF B a (bytesI v (n : Int)).data.toList i = wrF B a n v i := by
  have hcl : clamp (n : Int) 0 8 = n := by unfold clamp; split <;> split <;> omega
  have hlen : (bytesI v (n : Int)).data.toList.length = n := by
    unfold bytesI
    rw [str_list, hcl]
    simp [byteRow]
    omega
  unfold layF wrF
  rw [hlen]
  by_cases h : a ≤ i ∧ i < a + n
  · rw [if_pos h, if_pos h]
    have e := byteAt_bytes v (n : Int) ((i - a : Nat) : Int)
    rw [hcl, if_pos (by omega)] at e
    unfold byteAt at e
    rw [if_pos (by omega), Int.toNat_natCast] at e
    rw [e]
    unfold bvI
    rw [show (2 : Int) ^ (8 * (i - a)) = 256 ^ (i - a) by rw [Int.pow_mul]; rfl]
  · rw [if_neg h, if_neg h]
theorem bytes_size {n : Nat} (hn : n ≤ 8) (v : Int) : (bytesI v (n : Int)).size = n := by
  have hcl : clamp (n : Int) 0 8 = n := by unfold clamp; split <;> split <;> omega
  have e : (bytesI v (n : Int)).data.toList.length = n := by
    unfold bytesI
    rw [str_list, hcl]
    simp [byteRow]
    omega
  simpa using e
end Go.Proofs.YtpplclenokfpeaaDoor
