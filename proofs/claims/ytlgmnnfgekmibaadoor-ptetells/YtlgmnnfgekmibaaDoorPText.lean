/-
  The text of an entry, as the document tells it, and as the statement's own text answers it.
-/
import Derived.Test.YtlgmnnfgekmibaaDoorRefMay
import Derived.Test.YtlgmnnfgekmibaaDoorMemBase
namespace Go.Proofs.YtlgmnnfgekmibaaDoor
open Go.RowKit
/-- The letters of the bits, one behind the other. -/
def letL : List UInt8 := [86, 82, 87, 88, 85, 63, 65, 68]
def txtK (e : Int) : Nat → List UInt8
  | 0 => []
  | k + 1 => txtK e k ++ (bif decide (k ≠ 5) && gb e k then [letL.getD k 0] else [])
/-- The text of an entry. -/
def txtL (e : Int) : List UInt8 := txtK e 8 ++ 32 :: dgI (frI e)
theorem txtK_len (e : Int) : ∀ k, (txtK e k).length ≤ k
  | 0 => by simp [txtK]
  | k + 1 => by
    have h := txtK_len e k
    unfold txtK
    rw [List.length_append]
    cases (decide (k ≠ 5) && gb e k) <;> simp <;> omega
theorem gb_shr {e : Int} (he : U e) (k : Nat) : (bits .and .u64 (e / 2 ^ k) 1 == 1) = gb e k := by
  have h : tb (e / 2 ^ k) 0 = tb e (0 + k) := tb_shr he k 0
  rw [u_one]
  unfold gb
  rw [ofInt_tb (U_shr he k), ofInt_tb he, h, Nat.zero_add]
theorem let_cut (k : Nat) (hk : k < 8) (w : World) : (Instr.slice 9 (.string ⟨#[86, 82, 87, 88, 85, 63, 65, 68]⟩) (some (.int .i64 (k : Int))) (some (.int .i64 ((k : Int) + 1))) none).run Tryd.prog w = .ok (.string (bs [letL.getD k 0])) w := by
  have hs : (⟨#[86, 82, 87, 88, 85, 63, 65, 68]⟩ : ByteArray).size = 8 := rfl
  rw [run_slice_string w _ _ _ _ _ _ Tryd.underlying9 (by omega) (by omega) (by rw [hs]; omega), Int.toNat_natCast, show ((k : Int) + 1).toNat = k + 1 by omega]
  have hd : ∀ k : Fin 8, (⟨#[86, 82, 87, 88, 85, 63, 65, 68]⟩ : ByteArray).extract k.val (k.val + 1) = bs [letL.getD k.val 0] := by decide
  rw [hd ⟨k, hk⟩]
theorem sp_32 : (⟨#[32]⟩ : ByteArray) = bs [32] := rfl
theorem sp_0 : (⟨#[]⟩ : ByteArray) = bs [] := rfl
set_option maxRecDepth 10000 in
set_option maxHeartbeats 1000000 in
theorem ltext_any (e : Int) (he : U e) (w : World) :
    Calls Tryd.prog 19 #[.int .u64 e] w fun r w' => r = .returned (.string (bs (txtL e))) ∧ Kept w w' := by
  have e1 : bits .and .u64 (e / 256) 255 = frI e := u_low (e / 256) 8 (by omega) 255 rfl
  have l1 : 0 ≤ frI e := by unfold frI; omega
  have l2 : frI e < 256 := by unfold frI; omega
  have u0 := he.1
  go_enter Tryd.func19, Tryd.ntmps19
  go_wp2
  go_loopw [4, 5] (fun s i wr => ∃ k : Nat, k ≤ 8 ∧ s = .string (bs (txtK e k)) ∧ i = .int .i64 (k : Int) ∧ wr = w) (fun _ i _ => 8 - (intOf i).toNat)
  case atStart => exact ⟨0, by omega, rfl, rfl, rfl⟩
  case round =>
    obtain ⟨k, hk, rfl, rfl, rfl⟩ := hrel
    by_cases hlt : k < 8
    · have hb := gb_shr he k
      have hc := let_cut k hlt
      have hl := txtK_len e k
      have l3 : (k : Int) < 8 := by omega
      have ha := add_bs Tryd.prog (txtK e k) [letL.getD k 0] (by simp; omega)
      have e2 : txtK e (k + 1) = txtK e k ++ (bif decide (k ≠ 5) && gb e k then [letL.getD k 0] else []) := rfl
      have hw1 : IntKind.u64.wrap (k : Int) = (k : Int) := by rw [IntKind.wrap_u64]; omega
      by_cases h5 : k = 5
      · have d5 : ((k : Int) != 5) = false := by rw [h5]; rfl
        rw [decide_eq_false (fun h => h h5), Bool.false_and, cond_false, List.append_nil] at e2
        clear hb hc ha hl h5
        go_wp2
        exact ⟨⟨k + 1, by omega, by rw [e2], by go_num, trivial⟩, by simp [intOf]; omega⟩
      · have d5 : ((k : Int) != 5) = true := bne_iff_ne.2 (by omega)
        rw [decide_eq_true h5, Bool.true_and] at e2
        clear h5
        cases hg : gb e k
        · rw [hg] at hb e2
          rw [cond_false, List.append_nil] at e2
          clear hg hc ha hl
          go_wp2
          exact ⟨⟨k + 1, by omega, by rw [e2], by go_num, trivial⟩, by simp [intOf]; omega⟩
        · rw [hg] at hb e2
          rw [cond_true] at e2
          clear hg hl
          generalize letL.getD k 0 = c at hc ha e2
          go_wp2
          exact ⟨⟨k + 1, by omega, by rw [e2], by go_num, trivial⟩, by simp [intOf]; omega⟩
    · obtain rfl : k = 8 := by omega
      have hl := txtK_len e 8
      have ha := add_bs Tryd.prog (txtK e 8) [32] (by simp; omega)
      rw [← sp_32] at ha
      have hd := dgI_len (frI e)
      have hz := add_bs Tryd.prog (txtK e 8 ++ [32]) (dgI (frI e)) (by rw [List.length_append]; simp; omega)
      rw [show txtK e 8 ++ [32] ++ dgI (frI e) = txtL e by unfold txtL; simp] at hz
      clear hl hd
      go_wp2_with fail
      refine (digits_any (frI e) (by omega) (by omega) _).mono ?_
      rintro r w' ⟨rfl, hg⟩
      go_wp2
      go_ret
      exact ⟨rfl, Only.of_grown hg⟩
end Go.Proofs.YtlgmnnfgekmibaaDoor
