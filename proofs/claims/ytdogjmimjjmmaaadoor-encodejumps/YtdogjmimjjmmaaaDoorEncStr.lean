/-
  The parts of an instruction's text, one by one: package encode's register and tell, walked.
-/
import Derived.Test.YtdogjmimjjmmaaaDoorEncMore
import Derived.Test.YtdogjmimjjmmaaaDoorEncDefs
import Derived.Test.YtdogjmimjjmmaaaDoorRefDigits
import Derived.Deep.AppendLies
namespace Go.Proofs.YtdogjmimjjmmaaaDoor
open Go.RowKit
theorem dg_lib : ∀ (f n : Nat), n < 10 ^ (f + 1) → dgF (f + 1) n = Lib.decDigits n
  | 0, n, h => by
    rw [Lib.decDigits, dif_pos (by simpa using h)]
    unfold dgF
    rw [if_pos (by simpa using h)]
  | f + 1, n, h => by
    unfold dgF
    rw [Lib.decDigits]
    by_cases hn : n < 10
    · rw [if_pos hn, dif_pos hn]
    · rw [if_neg hn, dif_neg hn, dg_lib f (n / 10) (by rw [Nat.pow_succ] at h; omega)]
theorem itoa_dg {n : Int} (h0 : -9223372036854775808 ≤ n) (h1 : n ≤ 9223372036854775807) : Lib.itoa n = dgI n := by
  unfold Lib.itoa dgI
  split
  · rw [dg_lib 19 (-n).toNat (by omega), show n.natAbs = (-n).toNat by omega]
  · rw [dg_lib 19 n.toNat (by omega)]
theorem eitoa_any (n : Int) (h0 : -9223372036854775808 ≤ n) (h1 : n ≤ 9223372036854775807) (w : World) (hT : Tab4 w) :
    Calls Tryd.prog 48 #[.int .i64 n] w fun e w' => e = .returned (.string (bs (dgI n))) ∧ More w w' := by
  rw [← itoa_dg h0 h1]
  refine (itoa_lib n h0 h1 w hT.p).mono ?_
  rintro e w' ⟨rfl, k, os, rfl⟩
  exact ⟨rfl, More.grow w k os⟩
theorem eformat_any (n : Int) (h0 : -9223372036854775808 ≤ n) (h1 : n ≤ 9223372036854775807) (w : World) (hT : Tab4 w) :
    Calls Tryd.prog 49 #[.int .i64 n, .int .i64 10] w fun e w' => e = .returned (.string (bs (dgI n))) ∧ More w w' := by
  rw [← itoa_dg h0 h1]
  refine (formatInt_lib n h0 h1 w hT.p).mono ?_
  rintro e w' ⟨rfl, k, os, rfl⟩
  exact ⟨rfl, More.grow w k os⟩
theorem register_any (n : Int) (h0 : -9223372036854775808 ≤ n) (h1 : n ≤ 9223372036854775807) (w : World) (hT : Tab4 w) :
    Calls Tryd.prog 47 #[.int .i64 n] w fun e w' => e = .returned (.string (bs (120 :: dgI n))) ∧ More w w' := by
  have lD := dgI_len n
  have x0 : ∀ w : World, (Op.stringOp .add (⟨#[120]⟩ : ByteArray) (bs (dgI n))).run Tryd.prog w = .ok (.string (bs (120 :: dgI n))) w := add_bs Tryd.prog [120] (dgI n) (by simp; omega)
  clear lD
  have hc : Calls Tryd.prog 48 #[.int .i64 n] w fun e w' => e = .returned (.string (bs (dgI n))) ∧ More w w' := eitoa_any n h0 h1 w hT
  generalize dgI n = D at *
  clear h0 h1
  go_enter Tryd.func47, Tryd.ntmps47
  go_wp2_with (go_at_call 48; refine hc.mono ?_; rintro e w' ⟨rfl, hg⟩)
  go_ret
  exact ⟨rfl, hg⟩
theorem six_m {W w' : World} {op rd rs1 rs2 imm csr : Int} (hg : More (W.alloc (.cells #[.int .i64 op, .int .i64 rd, .int .i64 rs1, .int .i64 rs2, .int .i64 imm, .int .i64 csr] 23)) w') : w'.cell? ⟨W.heap.size, 0, none⟩ = some (.int .i64 op) ∧ w'.cell? ⟨W.heap.size, 1, none⟩ = some (.int .i64 rd) ∧ w'.cell? ⟨W.heap.size, 2, none⟩ = some (.int .i64 rs1) ∧ w'.cell? ⟨W.heap.size, 3, none⟩ = some (.int .i64 rs2) ∧ w'.cell? ⟨W.heap.size, 4, none⟩ = some (.int .i64 imm) ∧ w'.cell? ⟨W.heap.size, 5, none⟩ = some (.int .i64 csr) := by
  obtain ⟨c0, c1, c2, c3, c4, c5⟩ := (Six.new W 23 op rd rs1 rs2 imm csr).more hg
  exact ⟨c0, c1, c2, c3, c4, c5⟩
theorem More.grownBy {W w w' : World} {row : Option Nat} (h : More W w) (hg : w.grownBy w' row) (hr : ∀ k, row = some k → W.heap.size ≤ k) : More W w' := by
  obtain ⟨⟨h1, h2, h3⟩, h4⟩ := h
  refine ⟨⟨hg.os.trans h1, hg.output.trans h2, fun i hi => ?_⟩, Nat.le_trans h4 hg.size⟩
  rw [hg.block i (by omega) (fun e => by have := hr i e.symm; omega)]
  exact h3 i hi
theorem row_more {w w' : World} {base : Nat} {e : TypeId} {size : Nat} {v : Value} {n : Nat} {xs : List Value} (h : w.ownsRow base e size v n xs) (g : More w w') : w'.ownsRow base e size v n xs := by
  obtain ⟨h1, h2⟩ := h
  refine ⟨h1, ?_⟩
  rcases h2 with h2 | ⟨b, cap, cur, hv, hb, hh, r⟩
  · exact .inl h2
  · exact .inr ⟨b, cap, cur, hv, hb, g.block hh, r⟩
theorem info_str : (Tryd.prog.info? 9).map (fun i => (i.zero, i.size, i.bytes)) = some (some (.string ByteArray.empty), 1, 16) := by kernel_rfl
end Go.Proofs.YtdogjmimjjmmaaaDoor
