/-
  The two laws for rows of every length: of more than forty entries they ask the examples alone.
-/
import Derived.Test.YtpfblbleendpiaaFGuests14
namespace Go.Proofs.Ytpfblbleendpiaa
open Go.RowKit
set_option maxRecDepth 10000 in
theorem fparts_any (v : Value) (S : StM) (hS : S.Ok) {W : World} (h : RowN W v) (hT : Tab14 W) :
    Calls Try.prog 3 #[v, .agg (rowOf 65 (stF S))] W fun e w' => e = .returned (.bool true) ∧ Kept W w' := by
  obtain ⟨q, n, cp, L, rfl, hP⟩ := h
  by_cases hn : n ≤ 40
  · exact fparts_short q n cp L hn hS hP hT
  · have l1 : (40 : Int) < (n : Int) := by omega
    have k0 := (Only.refl (fun _ => False) W).alloc (.cells (rowOf 65 (stF S)) 27)
    clear hP hn
    go_enter Try.func3, Try.ntmps3
    go_wp2_with fail
    refine (known14_any (hT.kept k0) (Only.refl _ _)).mono ?_
    rintro e w1 ⟨rfl, k1⟩
    go_wp2
    go_ret
    exact ⟨rfl, k0.then k1⟩
set_option maxRecDepth 10000 in
theorem fguests_any (v : Value) (S : StM) (page asid : Int) (hS : S.Ok) {W : World} (h : RowN W v) (hT : Tab14 W) :
    Calls Try.prog 4 #[v, .agg (rowOf 65 (stF S)), .int .i64 page, .int .i64 asid] W fun e w' => e = .returned (.bool true) ∧ Kept W w' := by
  obtain ⟨q, n, cp, L, rfl, hP⟩ := h
  by_cases hn : n ≤ 40
  · exact fguests_short q n cp L hn hS page asid hP hT
  · have l1 : (40 : Int) < (n : Int) := by omega
    have k0 := (Only.refl (fun _ => False) W).alloc (.cells (rowOf 65 (stF S)) 27)
    clear hP hn
    go_enter Try.func4, Try.ntmps4
    go_wp2_with fail
    refine (known14_any (hT.kept k0) (Only.refl _ _)).mono ?_
    rintro e w1 ⟨rfl, k1⟩
    go_wp2
    go_ret
    exact ⟨rfl, k0.then k1⟩
end Go.Proofs.Ytpfblbleendpiaa
