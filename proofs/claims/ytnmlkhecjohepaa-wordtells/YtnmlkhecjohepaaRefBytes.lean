/-
  What the document's Bytes answers (the reference of layer 1): the same as package word's Bytes, for every word and every number of bytes.
-/
import Derived.Test.YtnmlkhecjohepaaBack
namespace Go.Proofs.Ytnmlkhecjohepaa
open Go.RowKit
def rbs (v : Int) (k : Nat) : List Int := (List.range k).map (bvI v)
theorem rbs_succ (v : Int) (k : Nat) : (rbs v (k + 1)).map (Value.int .u8) = (rbs v k).map (Value.int .u8) ++ [.int .u8 (v / 2 ^ (8 * k) % 256)] := by
  unfold rbs; rw [List.range_succ]; simp [bvI]
theorem rbs_bytes (v n : Int) : strOf (rbs v (clamp n 0 8).toNat) = bytesI v n := by
  obtain ⟨hb1, hb2⟩ := clamp_bd n 0 8 (by omega)
  unfold bytesI rbs
  rw [byteRow_eq, ← List.map_take, List.take_range, show min (clamp n 0 8).toNat 8 = (clamp n 0 8).toNat by omega]
theorem info5 : (Try.prog.info? 5).map (fun i => (i.zero, i.size, i.bytes)) = some (some (.int .u8 0), 1, 1) := by kernel_rfl
theorem conv_own (w : World) (B k : Nat) (s : Value) (ns : List Int) (h : w.ownsRow B 5 1 s k (ns.map (Value.int .u8))) :
    (convert 48 9 s).run Try.prog w = .ok (.string (strOf ns)) w := by
  have hlen : ns.length = k := by have := h.1; simpa using this
  rcases h.2 with ⟨rfl, rfl⟩ | ⟨g, cap, cur, rfl, _, hg, hn, _, hs, ht⟩
  · rw [run_convert_bytes_string _ 48 9 5 _ _ _ (by kernel_rfl) (by kernel_rfl) (by kernel_rfl)]
    obtain rfl : ns = [] := List.eq_nil_of_length_eq_zero hlen
    rfl
  · rw [run_convert_bytes_string _ 48 9 5 _ _ _ (by kernel_rfl) (by kernel_rfl) (by kernel_rfl)]
    have hl : (ns.map (Value.int .u8)).length = k := by simpa using hlen
    have hc := h.cells (g := g) rfl
    have hr := run_loadCells_list (P := Try.prog) w ⟨g, 0, none⟩ (ns.map (Value.int .u8)) hc
    rw [hl] at hr
    rw [run_bytesToString _ _ _ _ _ hr]
    rfl
set_option linter.unusedVariables false in
set_option maxHeartbeats 1000000 in
theorem rbytes_walk (v n : Int) (c : Nat) (hc : c ≤ 8) (hk : mx 0 (mn n 8) = (c : Int)) (w : World) :
    Calls Try.prog 21 #[.int .u64 v, .int .i64 n] w fun e w' => e = .returned (.string (strOf (rbs v c))) ∧ Below w.heap.size w w' := by
  have hmn := fun ts t k k' x y w => run_mn (P := Try.prog) (w := w) ts t k k' x y
  have hmx := fun ts t k k' x y w => run_mx (P := Try.prog) (w := w) ts t k k' x y
  obtain ⟨i0, hi, hz0, hz1, hz2⟩ := info_parts info5
  go_enter Try.func21, Try.ntmps21
  go_wp2
  go_loopw [5, 6] (fun s i wr => ∃ k : Nat, k ≤ c ∧ i = .int .i64 k ∧ wr.ownsRow w.heap.size 5 1 s k ((rbs v k).map (Value.int .u8)) ∧ Below w.heap.size w wr) (fun _ i _ => c - (intOf i).toNat)
  case atStart => exact ⟨0, Nat.zero_le _, rfl, World.ownsRow_nil _ _ _ _, Below.refl _ _⟩
  case round =>
    obtain ⟨k, hkc, rfl, hown, hnx⟩ := hrel
    by_cases hlt : k < c
    · have hlt' : (k : Int) < c := by omega
      have hk8 : (k : Int) ≤ 8 := by omega
      have hsz := hnx.size
      go_wp2_with (at_builtin; refine wpList_append_own _ rfl _ _ 48 rfl w.heap.size 5 i0 (.int .u8 0) 1 1 Try.underlying48 hi hz0 hz1 hz2 rfl (by decide) _ _ _ rfl (hown.alloc _) ⟨wr.heap.size, 0, none⟩ 1 1 [.int .u8 (v / 2 ^ (8 * k) % 256)] rfl rfl ?c1 ?c2 ?c3 ?c4 ?c5 ?_)
      case c1 =>
        intro j u hj
        match j, hj with
        | 0, hj => simp at hj; subst hj; simp [Addr.add]
      case c2 => intro u hu; simp at hu; subst hu; rfl
      case c3 => unfold maxLen; omega
      case c4 => omega
      case c5 => simp; omega
      intro v' w1 hown' hgrow _
      have hb : Below w.heap.size w w1 := (hnx.alloc hsz _).grown hgrow (by simp; omega) (fun g hg => (hown.lt g hg).1)
      rw [← rbs_succ] at hown'
      clear hgrow hown
      go_wp2
      go_roundw
      case rel => exact ⟨k + 1, by omega, by simp, hown', hb⟩
      case measure => simp [intOf]; omega
    · have hlt' : ¬ (k : Int) < c := by omega
      obtain rfl : k = c := by omega
      have hcv := conv_own _ _ _ _ _ hown
      go_wp2
      go_ret
      exact ⟨rfl, hnx⟩
theorem rbytes_any (v n : Int) (w : World) :
    Calls Try.prog 21 #[.int .u64 v, .int .i64 n] w fun e w' => e = .returned (.string (bytesI v n)) ∧ Below w.heap.size w w' := by
  obtain ⟨hb1, hb2⟩ := clamp_bd n 0 8 (by omega)
  have e4 : clamp n 0 8 = mx 0 (mn n 8) := clamp_mx _ _ _ (by omega)
  rw [← rbs_bytes]
  exact rbytes_walk v n _ (by omega) (by omega) w
end Go.Proofs.Ytnmlkhecjohepaa
