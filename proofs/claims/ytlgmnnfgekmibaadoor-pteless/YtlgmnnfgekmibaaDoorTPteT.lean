/-
  What package pte's Text answers: walked whole, for every entry.
-/
import Derived.Test.YtlgmnnfgekmibaaDoorTPte
import Derived.Deep.AppendLies
import Derived.Deep.Cut
namespace Go.Proofs.YtlgmnnfgekmibaaDoor
open Go.RowKit
set_option maxRecDepth 10000 in
set_option maxHeartbeats 4000000 in
theorem ptext_any {w : World} (hT : Tab10 w) (e : Int) (_ : U e) :
    Calls Tryd.prog 18 #[.int .u64 e] w fun r w' => r = .returned (.string (bs (txtL e))) ∧ Kept w w' := by
  obtain ⟨i0, hi, hz0, hz1, hz2⟩ := info_parts8 info_u8
  go_enter Tryd.func18, Tryd.ntmps18
  go_wp2_with (refine wpList_load_list rfl 40 _ rfl 0 rfl leL _ hT.l Tryd.underlying40 rfl sizeLe ?_)
  go_loopw [3, 7] (fun s i wr => ∃ j n : Nat, j ≤ 7 ∧ i = .int .i64 (j : Int) ∧ n ≤ j ∧ wr.ownsRow w.heap.size 5 1 s n (Lib.byteCells (txtR e j)) ∧ Kept w wr) (fun _ i _ => 7 - (intOf i).toNat)
  case atStart => exact ⟨0, 0, by omega, rfl, Nat.le_refl _, World.ownsRow_nil _ _ _ _, Only.refl _ _⟩
  case round =>
    obtain ⟨j, n, hj, rfl, hn, hown, hg⟩ := hrel
    have hsz := hg.size
    by_cases hlt : j < 7
    · have hlt' : (j : Int) < 7 := by omega
      have hx := le_row j hlt
      have hb := u_is e (posN j) (by unfold posN; split <;> omega) _ (lB_is hlt)
      have hr : txtR e (j + 1) = txtR e j ++ (bif gb e (posN j) then [letL.getD (posN j) 0] else []) := rfl
      have hc : Hid (lC j = ((letL.getD (posN j) 0).toNat : Int)) := lC_is hlt
      generalize lB j = lb at *
      generalize lC j = lc at *
      have hk1 := hg.alloc (.cells #[.int .u64 lb, .int .u8 lc] 39)
      have hown1 := hown.alloc (.cells #[.int .u64 lb, .int .u8 lc] 39)
      cases hgb : gb e (posN j)
      · rw [hgb] at hb hr
        rw [cond_false, List.append_nil] at hr
        rw [← hr] at hown1
        clear hgb hr hc
        go_wp2
        exact ⟨⟨j + 1, n, by omega, by go_num, by omega, hown1, hk1⟩, by simp [intOf]; omega⟩
      · rw [hgb] at hb hr
        rw [cond_true] at hr
        clear hgb
        have c0 : (wr.alloc (.cells #[.int .u64 lb, .int .u8 lc] 39)).cell? ⟨wr.heap.size, 1, none⟩ = some (.int .u8 lc) := by
          unfold World.cell?
          rw [alloc_last]
          rfl
        go_upto_region 6 with fail
        generalize wr.alloc (.cells #[.int .u64 lb, .int .u8 lc] 39) = w1 at *
        have hsz1 := hk1.size
        clear hx hb hlt' hg hown
        generalize wr.heap.size = p0 at *
        go_wp2_with (at_builtin; refine wpList_append_lies _ rfl _ _ 38 rfl w.heap.size 5 i0 (.int .u8 0) 1 1 Tryd.underlying38 hi hz0 hz1 hz2 rfl (by decide) _ _ _ rfl (hown1.alloc _) ⟨w1.heap.size, 0, none⟩ 1 1 [.int .u8 lc] rfl rfl ?c1 ?c2 (by decide) ?c3 ?c4 ?c5 (w1.heap.size + 1) (by simp) ?_)
        case c1 => exact cell_one_new _ _ _
        case c2 => intro u hu; simp at hu; subst hu; rfl
        case c3 => unfold maxLen; omega
        case c4 => omega
        case c5 => simp; omega
        intro g cap w2 hown2 hgrow _ _
        have hk2 : Kept w w2 := Only.grownBy (hk1.alloc _) hgrow (fun i h => (hown1.lt i h).1)
        have he : Lib.byteCells (txtR e j) ++ [Value.int .u8 lc] = Lib.byteCells (txtR e (j + 1)) := by
          rw [hr, show lc = _ from hc]
          simp [Lib.byteCells]
        rw [he] at hown2
        clear hgrow hown1 c0 he hr hc
        go_wp2
        exact ⟨⟨j + 1, n + 1, by omega, by go_num, by omega, hown2, hk2⟩, by simp [intOf]; omega⟩
    · obtain rfl : j = 7 := by omega
      go_wp2_with (at_builtin; refine wpList_append_lies _ rfl _ _ 38 rfl w.heap.size 5 i0 (.int .u8 0) 1 1 Tryd.underlying38 hi hz0 hz1 hz2 rfl (by decide) _ _ _ rfl (hown.alloc _) ⟨wr.heap.size, 0, none⟩ 1 1 [.int .u8 32] rfl rfl ?c1 ?c2 (by decide) ?c3 ?c4 ?c5 (wr.heap.size + 1) (by simp) ?_)
      case c1 => exact cell_one_new _ _ _
      case c2 => intro u hu; simp at hu; subst hu; rfl
      case c3 => unfold maxLen; omega
      case c4 => omega
      case c5 => simp; omega
      intro g cap w2 hown2 hgrow _ _
      have hk2 : Kept w w2 := Only.grownBy (hg.alloc _) hgrow (fun i h => (hown.lt i h).1)
      have he : Lib.byteCells (txtR e 7) ++ [Value.int .u8 32] = Lib.byteCells (txtK e 8 ++ [32]) := by
        rw [txtR_is]
        simp [Lib.byteCells]
      rw [he] at hown2
      have hsz2 := hk2.size
      have f0 : 0 ≤ frI e := by unfold frI; omega
      have f1 : frI e < 256 := by unfold frI; omega
      have hd := itoa_dg10 (n := frI e) (by omega) (by omega)
      clear hgrow hown he
      go_wp2_with fail
      refine (pframe_of e).mono ?_
      rintro r w3 ⟨rfl, hw3⟩
      rw [hw3]
      clear hw3 w3
      go_wp2_with fail
      refine (appendInt_lib w.heap.size _ _ (by omega) (by omega) _ _ _ hown2 hsz2 (by omega) (fun w' hb => tabis_kept hT.p (hk2.below hb))).mono ?_
      rintro r w3 ⟨v3, rfl, hown3, hb3, _⟩
      have hk3 := hk2.below hb3
      have he3 : Lib.byteCells (txtK e 8 ++ [32]) ++ Lib.byteCells (Lib.itoa (frI e)) = Lib.byteCells (txtL e) := by
        rw [hd]
        unfold txtL
        simp [Lib.byteCells]
      rw [he3] at hown3
      have hcv := conv_row hown3
      clear hb3 hown2 hk2 he3 hd
      go_wp2
      go_ret
      exact ⟨rfl, hk3⟩
end Go.Proofs.YtlgmnnfgekmibaaDoor
