/-
  The four bytes of a word: package word's Bytes and the document's, walked.
-/
import Derived.Test.YtdogjmimjjmmaaaDoorEncMore
import Derived.Test.YtdogjmimjjmmaaaDoorRefDigits
import Derived.Laws.BytesString
import Derived.Laws.Cells
namespace Go.Proofs.YtdogjmimjjmmaaaDoor
open Go.RowKit
theorem wbelow_any (x : Int) (h0 : 0 ≤ x) (h8 : x < 8) (w : World) :
    Calls Tryd.prog 59 #[.int .i64 x] w fun e w' => e = .returned (.int .u64 (x * 8)) ∧ w' = w := by
  go_enter Tryd.func59, Tryd.ntmps59
  go_wp2
  go_ret
  exact ⟨rfl, rfl⟩
def strOf (ns : List Int) : ByteArray := ns.foldl (fun r n => r.push (UInt8.ofNat n.toNat)) ByteArray.empty
def byteRow (v : Int) : List Int := [v % 256, v / 256 % 256, v / 65536 % 256, v / 16777216 % 256, v / 4294967296 % 256, v / 1099511627776 % 256, v / 281474976710656 % 256, v / 72057594037927936 % 256]
def bytesI (v n : Int) : ByteArray := strOf ((byteRow v).take (clamp n 0 8).toNat)
theorem conv_bytes (w : World) (c0 c1 c2 c3 c4 c5 c6 c7 : Int) (k : Nat) (hk : k ≤ 8) :
    (convert 64 9 (.slice (some { block := w.heap.size, off := 0 }) k 8)).run Tryd.prog (w.alloc (.cells #[.int .u8 c0, .int .u8 c1, .int .u8 c2, .int .u8 c3, .int .u8 c4, .int .u8 c5, .int .u8 c6, .int .u8 c7] 102))
     = .ok (.string (strOf ([c0, c1, c2, c3, c4, c5, c6, c7].take k))) (w.alloc (.cells #[.int .u8 c0, .int .u8 c1, .int .u8 c2, .int .u8 c3, .int .u8 c4, .int .u8 c5, .int .u8 c6, .int .u8 c7] 102)) := by
  rw [run_convert_bytes_string _ 64 9 5 _ _ _ (by kernel_rfl) (by kernel_rfl) (by kernel_rfl)]
  have hl : (([c0, c1, c2, c3, c4, c5, c6, c7].take k).map (Value.int .u8)).length = k := by simp; omega
  have h := run_loadCells_list (P := Tryd.prog) (w.alloc (.cells #[.int .u8 c0, .int .u8 c1, .int .u8 c2, .int .u8 c3, .int .u8 c4, .int .u8 c5, .int .u8 c6, .int .u8 c7] 102)) { block := w.heap.size, off := 0 } (([c0, c1, c2, c3, c4, c5, c6, c7].take k).map (Value.int .u8)) (by
    intro j v hj
    have hlt : j < 8 := by
      have := (List.getElem?_eq_some_iff.1 hj).1
      simp at this; omega
    have hj' : (([c0, c1, c2, c3, c4, c5, c6, c7]).map (Value.int .u8))[j]? = some v := by
      have e : (([c0, c1, c2, c3, c4, c5, c6, c7].take k).map (Value.int .u8)) = (([c0, c1, c2, c3, c4, c5, c6, c7]).map (Value.int .u8)).take k := by rw [List.map_take]
      rw [e, List.getElem?_take] at hj
      split at hj
      · exact hj
      · simp at hj
    have h8 : j = 0 ∨ j = 1 ∨ j = 2 ∨ j = 3 ∨ j = 4 ∨ j = 5 ∨ j = 6 ∨ j = 7 := by omega
    rcases h8 with rfl | rfl | rfl | rfl | rfl | rfl | rfl | rfl <;> simp at hj' <;> subst hj' <;> simp [Addr.add, go_sem])
  rw [hl] at h
  rw [run_bytesToString _ _ _ _ _ h]
  rfl
set_option maxHeartbeats 1000000 in
theorem wbytes_any (v n : Int) (w : World) :
    Calls Tryd.prog 34 #[.int .u64 v, .int .i64 n] w fun e w' => e = .returned (.string (bytesI v n)) ∧ Grown w w' := by
  obtain ⟨hb1, hb2⟩ := clamp_bd n 0 8 (by omega)
  have hc := conv_bytes w (v % 256) (v / 256 % 256) (v / 65536 % 256) (v / 16777216 % 256) (v / 4294967296 % 256) (v / 1099511627776 % 256) (v / 281474976710656 % 256) (v / 72057594037927936 % 256) (clamp n 0 8).toNat (by omega)
  go_enter Tryd.func34, Tryd.ntmps34
  go_wp2
  refine wp_loop_rounds 9 ?_
  repeat (
    rw [rounds_succ]
    go_wp2_with (go_at_call 59; refine (wbelow_any _ (by omega) (by omega) _).mono ?_; rintro e w' ⟨rfl, rfl⟩))
  refine (held_any _ _ _ _).mono ?_
  rintro e w' ⟨rfl, rfl⟩
  go_wp2_with fail
  go_ret

  exact ⟨rfl, by repeat (first | exact Grown.refl _ | apply Grown.drew | apply Grown.alloc)⟩

def mn (x y : Int) : Int := if y < x then y else x
def mx (x y : Int) : Int := if x < y then y else x
theorem run_mn {P : Program} {w : World} (ts : Array TypeId) (t : TypeId) (k k' : IntKind) (x y : Int) : (Builtin.min_ ts t #[.int k x, .int k' y]).run P w = .ok (.int k (mn x y)) w := by
  unfold mn; simp only [run_min_int2]
theorem run_mx {P : Program} {w : World} (ts : Array TypeId) (t : TypeId) (k k' : IntKind) (x y : Int) : (Builtin.max_ ts t #[.int k x, .int k' y]).run P w = .ok (.int k (mx x y)) w := by
  unfold mx; simp only [run_max_int2]
def bvI (v : Int) (j : Nat) : Int := v / 2 ^ (8 * j) % 256
def rbs (v : Int) (k : Nat) : List Int := (List.range k).map (bvI v)
theorem rbs_succ (v : Int) (k : Nat) : (rbs v (k + 1)).map (Value.int .u8) = (rbs v k).map (Value.int .u8) ++ [.int .u8 (v / 2 ^ (8 * k) % 256)] := by
  unfold rbs; rw [List.range_succ]; simp [bvI]
theorem info5 : (Tryd.prog.info? 5).map (fun i => (i.zero, i.size, i.bytes)) = some (some (.int .u8 0), 1, 1) := by kernel_rfl
theorem conv_own (w : World) (B k : Nat) (s : Value) (ns : List Int) (h : w.ownsRow B 5 1 s k (ns.map (Value.int .u8))) :
    (convert 64 9 s).run Tryd.prog w = .ok (.string (strOf ns)) w := by
  have hlen : ns.length = k := by have := h.1; simpa using this
  rcases h.2 with ⟨rfl, rfl⟩ | ⟨g, cap, cur, rfl, _, hg, hn, _, hs, ht⟩
  · rw [run_convert_bytes_string _ 64 9 5 _ _ _ (by kernel_rfl) (by kernel_rfl) (by kernel_rfl)]
    obtain rfl : ns = [] := List.eq_nil_of_length_eq_zero hlen
    rfl
  · rw [run_convert_bytes_string _ 64 9 5 _ _ _ (by kernel_rfl) (by kernel_rfl) (by kernel_rfl)]
    have hl : (ns.map (Value.int .u8)).length = k := by simpa using hlen
    have hc := h.cells (g := g) rfl
    have hr := run_loadCells_list (P := Tryd.prog) w ⟨g, 0, none⟩ (ns.map (Value.int .u8)) hc
    rw [hl] at hr
    rw [run_bytesToString _ _ _ _ _ hr]
    rfl
set_option linter.unusedVariables false in
set_option maxHeartbeats 1000000 in
theorem rbytes_walk (v n : Int) (c : Nat) (hc : c ≤ 8) (hk : mx 0 (mn n 8) = (c : Int)) (w : World) :
    Calls Tryd.prog 16 #[.int .u64 v, .int .i64 n] w fun e w' => e = .returned (.string (strOf (rbs v c))) ∧ Below w.heap.size w w' := by
  have hmn := fun ts t k k' x y w => run_mn (P := Tryd.prog) (w := w) ts t k k' x y
  have hmx := fun ts t k k' x y w => run_mx (P := Tryd.prog) (w := w) ts t k k' x y
  obtain ⟨i0, hi, hz0, hz1, hz2⟩ := info_parts info5
  go_enter Tryd.func16, Tryd.ntmps16
  go_wp2
  go_loopw [5, 6] (fun s i wr => ∃ k : Nat, k ≤ c ∧ i = .int .i64 k ∧ wr.ownsRow w.heap.size 5 1 s k ((rbs v k).map (Value.int .u8)) ∧ Below w.heap.size w wr) (fun _ i _ => c - (intOf i).toNat)
  case atStart => exact ⟨0, Nat.zero_le _, rfl, World.ownsRow_nil _ _ _ _, Below.refl _ _⟩
  case round =>
    obtain ⟨k, hkc, rfl, hown, hnx⟩ := hrel
    by_cases hlt : k < c
    · have hlt' : (k : Int) < c := by omega
      have hk8 : (k : Int) ≤ 8 := by omega
      have hsz := hnx.size
      go_wp2_with (at_builtin; refine wpList_append_own _ rfl _ _ 64 rfl w.heap.size 5 i0 (.int .u8 0) 1 1 Tryd.underlying64 hi hz0 hz1 hz2 rfl (by decide) _ _ _ rfl (hown.alloc _) ⟨wr.heap.size, 0, none⟩ 1 1 [.int .u8 (v / 2 ^ (8 * k) % 256)] rfl rfl ?c1 ?c2 ?c3 ?c4 ?c5 ?_)
      case c1 =>
        intro j u hj
        match j, hj with
        | 0, hj => simp at hj; subst hj; simp [Addr.add]
      case c2 => intro u hu; simp at hu; subst hu; rfl
      case c3 => unfold maxLen; omega
      case c4 => omega
      case c5 => simp; omega
      intro v' w1 hown' hgrow _
      have hb : Below w.heap.size w w1 := (hnx.alloc hsz _).grown hgrow (by simp; omega) (fun g hg => (hown.lt g hg).1)
      rw [← rbs_succ] at hown'
      clear hgrow hown
      go_wp2
      go_roundw
      case rel => exact ⟨k + 1, by omega, by simp, hown', hb⟩
      case measure => simp [intOf]; omega
    · have hlt' : ¬ (k : Int) < c := by omega
      obtain rfl : k = c := by omega
      have hcv := conv_own _ _ _ _ _ hown
      go_wp2
      go_ret
      exact ⟨rfl, hnx⟩
/-- The four bytes of a word, the least first. -/
def b4 (v : Int) : List UInt8 := [UInt8.ofNat (v % 256).toNat, UInt8.ofNat (v / 256 % 256).toNat, UInt8.ofNat (v / 65536 % 256).toNat, UInt8.ofNat (v / 16777216 % 256).toNat]
theorem b4_bytes (v : Int) : bytesI v 4 = bs (b4 v) := rfl
theorem b4_rbs (v : Int) : strOf (rbs v 4) = bs (b4 v) := by
  have e : rbs v 4 = [v % 256, v / 256 % 256, v / 65536 % 256, v / 16777216 % 256] := by
    simp [rbs, bvI, List.range_succ]
  rw [e]
  rfl
theorem bytes4_any (v : Int) (w : World) :
    Calls Tryd.prog 34 #[.int .u64 v, .int .i64 4] w fun e w' => e = .returned (.string (bs (b4 v))) ∧ More w w' := by
  rw [← b4_bytes]
  exact (wbytes_any v 4 w).mono fun _ _ h => ⟨h.1, Grown.more h.2⟩
theorem rbytes4_any (v : Int) (w : World) :
    Calls Tryd.prog 16 #[.int .u64 v, .int .i64 4] w fun e w' => e = .returned (.string (bs (b4 v))) ∧ More w w' := by
  rw [← b4_rbs]
  exact (rbytes_walk v 4 4 (by decide) (by decide) w).mono fun _ _ h => ⟨h.1, .of_below h.2⟩
end Go.Proofs.YtdogjmimjjmmaaaDoor
