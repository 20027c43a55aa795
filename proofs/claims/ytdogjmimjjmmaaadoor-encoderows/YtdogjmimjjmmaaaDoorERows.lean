/-
  sallyportlaw4.EncodeRows, walked whole: true for every row of instructions.
-/
import Derived.Test.YtdogjmimjjmmaaaDoorEncFrom
namespace Go.Proofs.YtdogjmimjjmmaaaDoor
open Go.RowKit
set_option maxRecDepth 100000 in
set_option maxHeartbeats 1000000 in
theorem prog_nil (q : Option Addr) (cap : Nat) (w : World) :
    Calls Tryd.prog 15 #[.slice q 0 cap] w fun e w' => e = .returned (.tuple #[.string ⟨#[]⟩, .int .i64 0]) ∧ More w w' := by
  have hcv := conv_text w w.heap.size 0 (.slice none 0 0) [] (World.ownsRow_nil _ _ _ _)
  go_enter Tryd.func15, Tryd.ntmps15
  go_wp2
  refine wp_loop_rounds 1 ?_
  rw [rounds_succ]
  go_wp2
  go_ret2
  exact ⟨rfl, More.refl _⟩
set_option maxRecDepth 100000 in
set_option maxHeartbeats 1000000 in
theorem rows_nil (q : Option Addr) (cap : Nat) (W : World) (hT : Tab4 W) :
    Calls Tryd.prog 5 #[.slice q 0 cap] W fun e w' => e = .returned (.bool true) ∧ More W w' := by
  have hg := More.refl W
  go_enter Tryd.func5, Tryd.ntmps5
  go_wp2_with (first | (go_at_call 9; refine (known4_from hT hg).mono ?_; rintro e w1 ⟨rfl, hg1⟩) | (go_at_call 15; refine (prog_nil _ _ _).mono ?_; rintro e w2 ⟨rfl, hg2⟩))
  refine wp_loop_rounds 1 ?_
  rw [rounds_succ]
  go_wp2
  go_ret
  exact ⟨rfl, More.trans' hg1 hg2⟩
set_option maxRecDepth 100000 in
set_option maxHeartbeats 1000000 in
theorem rows_long (L : List Ins) (hL : 40 < L.length) (b o cap : Nat) (W : World) (hT : Tab4 W) :
    Calls Tryd.prog 5 #[.slice (some ⟨b, o, none⟩) L.length cap] W fun e w' => e = .returned (.bool true) ∧ More W w' := by
  have hg := More.refl W
  have hl : (40 : Int) < (L.length : Int) := by omega
  go_enter Tryd.func5, Tryd.ntmps5
  go_wp2_with (go_at_call 9; refine (known4_from hT hg).mono ?_; rintro e w1 ⟨rfl, hg1⟩)
  go_ret
  exact ⟨rfl, hg1⟩
theorem add_prog {L : List Ins} {k : Nat} {x : Ins} (hx : L[k]? = some x) (hk : k ≤ 40) (w : World) : (Op.stringOp .add (bs (progL (L.take k))) (bs (b4 x.word))).run Tryd.prog w = .ok (.string (bs (progL (L.take (k + 1))))) w := by
  rw [take_snoc hx, progL_snoc]
  refine add_bs Tryd.prog _ _ ?_ w
  rw [progL_len, List.length_take]
  show _ + 4 ≤ 1000
  omega
set_option maxRecDepth 100000 in
set_option maxHeartbeats 2000000 in
theorem rows_ok (L : List Ins) (hL : L.length ≤ 40) (hall : ∀ (j : Nat) x, L[j]? = some x → x.is = true) (b o cap : Nat) (W : World) (hT : Tab4 W) (hC : Lies W b o L) :
    Calls Tryd.prog 5 #[.slice (some ⟨b, o, none⟩) L.length cap] W fun e w' => e = .returned (.bool true) ∧ More W w' := by
  have hg := More.refl W
  have hl : ¬ (40 : Int) < (L.length : Int) := by omega
  go_enter Tryd.func5, Tryd.ntmps5
  go_wp2_with (first | (go_at_call 9; refine (known4_from hT hg).mono ?_; rintro e w1 ⟨rfl, hg1⟩) | (go_at_call 15; refine (prog_ok L (by omega) hall b o cap _ (hT.grown hg1) (hC.more hg1)).mono ?_; rintro e w2 ⟨rfl, hg2⟩))
  replace hg2 := More.trans' hg1 hg2
  clear hg1 hg
  go_loopw [5, 6] (fun s i wr => ∃ k : Nat, k ≤ L.length ∧ i = .int .i64 k ∧ s = .string (bs (progL (L.take k))) ∧ More W wr) (fun _ i _ => L.length - (intOf i).toNat)
  case atStart => exact ⟨0, Nat.zero_le _, rfl, rfl, hg2⟩
  case round =>
    obtain ⟨k, hk, rfl, rfl, hg⟩ := hrel
    by_cases hlt : k < L.length
    · obtain ⟨x, hx⟩ : ∃ x, L[k]? = some x := ⟨_, List.getElem?_eq_getElem (by omega)⟩
      have hlt' : (k : Int) < (L.length : Int) := by omega
      have hk0 : (0 : Int) ≤ (k : Int) := by omega
      obtain ⟨c0, c1, c2, c3, c4, c5⟩ := (hC k x hx).more hg
      have hE := enc_ins x (hall k x hx) _ (hT.grown hg)
      have hb := word_bd x
      have hw : IntKind.u64.wrap x.word = x.word := wraps_u64 _ (by omega) (by omega)
      clear hb
      have ha := add_prog hx (by omega)
      go_wp2_with (first | (go_at_call 10; refine hE.mono ?_; rintro e w3 ⟨rfl, hg3⟩) | (go_at_call 16; refine (rbytes4_any _ _).mono ?_; rintro e w4 ⟨rfl, hg4⟩))
      go_roundw
      case rel => exact ⟨k + 1, by omega, by simp, rfl, More.trans' hg (More.trans' hg3 hg4)⟩
      case measure => simp [intOf]; omega
    · have hlt' : ¬ (k : Int) < (L.length : Int) := by omega
      have hs : ((bs (progL L)).toList == (bs (progL (L.take k))).toList) = true := by rw [List.take_of_length_le (by omega)]; simp
      go_wp2
      go_ret
      exact ⟨rfl, hg⟩
set_option maxRecDepth 100000 in
set_option maxHeartbeats 2000000 in
theorem rows_bad (L : List Ins) (hL : L.length ≤ 40) (m : Nat) (y : Ins) (hy : L[m]? = some y) (hno : y.is = false) (hall : ∀ (j : Nat) x, L[j]? = some x → j < m → x.is = true) (b o cap : Nat) (W : World) (hT : Tab4 W) (hC : Lies W b o L) :
    Calls Tryd.prog 5 #[.slice (some ⟨b, o, none⟩) L.length cap] W fun e w' => e = .returned (.bool true) ∧ More W w' := by
  have hm : m < L.length := (List.getElem?_eq_some_iff.1 hy).1
  have hg := More.refl W
  have hl : ¬ (40 : Int) < (L.length : Int) := by omega
  have hP : ∀ w, Tab4 w → Lies w b o L → Calls Tryd.prog 15 #[.slice (some ⟨b, o, none⟩) L.length cap] w fun e w' => e = .returned (.tuple #[.string ⟨#[]⟩, .int .i64 40]) ∧ More w w' := fun w => prog_bad L (by omega) m y hy hno hall b o cap w
  go_enter Tryd.func5, Tryd.ntmps5
  go_wp2_with (first | (go_at_call 9; refine (known4_from hT hg).mono ?_; rintro e w1 ⟨rfl, hg1⟩) | (go_at_call 15; refine (hP _ (hT.grown hg1) (hC.more hg1)).mono ?_; rintro e w2 ⟨rfl, hg2⟩))
  replace hg2 := More.trans' hg1 hg2
  clear hg1 hg hP
  go_loopw [5, 6] (fun s i wr => ∃ k : Nat, k ≤ m ∧ i = .int .i64 k ∧ s = .string (bs (progL (L.take k))) ∧ More W wr) (fun _ i _ => m - (intOf i).toNat)
  case atStart => exact ⟨0, Nat.zero_le _, rfl, rfl, hg2⟩
  case round =>
    obtain ⟨k, hk, rfl, rfl, hg⟩ := hrel
    by_cases hlt : k < m
    · obtain ⟨x, hx⟩ : ∃ x, L[k]? = some x := ⟨_, List.getElem?_eq_getElem (by omega)⟩
      have hlt' : (k : Int) < (L.length : Int) := by omega
      have hk0 : (0 : Int) ≤ (k : Int) := by omega
      obtain ⟨c0, c1, c2, c3, c4, c5⟩ := (hC k x hx).more hg
      have hE := enc_ins x (hall k x hx hlt) _ (hT.grown hg)
      have hb := word_bd x
      have hw : IntKind.u64.wrap x.word = x.word := wraps_u64 _ (by omega) (by omega)
      clear hb
      have ha := add_prog hx (by omega)
      go_wp2_with (first | (go_at_call 10; refine hE.mono ?_; rintro e w3 ⟨rfl, hg3⟩) | (go_at_call 16; refine (rbytes4_any _ _).mono ?_; rintro e w4 ⟨rfl, hg4⟩))
      go_roundw
      case rel => exact ⟨k + 1, by omega, by simp, rfl, More.trans' hg (More.trans' hg3 hg4)⟩
      case measure => simp [intOf]; omega
    · obtain rfl : k = m := by omega
      have hlt' : (k : Int) < (L.length : Int) := by omega
      have hk0 : (0 : Int) ≤ (k : Int) := by omega
      obtain ⟨c0, c1, c2, c3, c4, c5⟩ := (hC k y hy).more hg
      have hE := enc_out y hno _ (hT.grown hg)
      go_wp2_with (go_at_call 10; refine hE.mono ?_; rintro e w3 ⟨rfl, hg3⟩)
      go_ret
      exact ⟨rfl, More.trans' hg hg3⟩
theorem first_bad : ∀ L : List Ins, (∀ (j : Nat) x, L[j]? = some x → x.is = true) ∨ ∃ (m : Nat) (y : Ins), L[m]? = some y ∧ y.is = false ∧ ∀ (j : Nat) x, L[j]? = some x → j < m → x.is = true
  | [] => .inl fun j x h => by simp at h
  | a :: L => by
    cases ha : a.is
    · exact .inr ⟨0, a, rfl, ha, fun j x _ h => by omega⟩
    · rcases first_bad L with h | ⟨m, y, h1, h2, h3⟩
      · refine .inl fun j x hx => ?_
        cases j with
        | zero => obtain rfl := Option.some.inj hx; exact ha
        | succ j => exact h j x hx
      · refine .inr ⟨m + 1, y, h1, h2, fun j x hx hj => ?_⟩
        cases j with
        | zero => obtain rfl := Option.some.inj hx; exact ha
        | succ j => exact h3 j x hx (by omega)
theorem rows_law (L : List Ins) (b o cap : Nat) (W : World) (hT : Tab4 W) (hC : Lies W b o L) :
    Calls Tryd.prog 5 #[.slice (some ⟨b, o, none⟩) L.length cap] W fun e w' => e = .returned (.bool true) ∧ More W w' := by
  by_cases hL : 40 < L.length
  · exact rows_long L hL b o cap W hT
  · rcases first_bad L with h | ⟨m, y, h1, h2, h3⟩
    · exact rows_ok L (by omega) h b o cap W hT hC
    · exact rows_bad L (by omega) m y h1 h2 h3 b o cap W hT hC
/-- What a row of instructions that comes in looks like. -/
def RowOf (w : World) (v : Value) : Prop := (∃ q cap, v = .slice q 0 cap) ∨ ∃ (b o cap : Nat) (L : List Ins), v = .slice (some ⟨b, o, none⟩) L.length cap ∧ Lies w b o L
theorem rows_all (v : Value) {W : World} (h : RowOf W v) (hT : Tab4 W) :
    Calls Tryd.prog 5 #[v] W fun e w' => e = .returned (.bool true) ∧ More W w' := by
  rcases h with ⟨q, cap, rfl⟩ | ⟨b, o, cap, L, rfl, hC⟩
  · exact rows_nil q cap W hT
  · exact rows_law L b o cap W hT hC
end Go.Proofs.YtdogjmimjjmmaaaDoor
