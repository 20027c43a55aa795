/-
  Causes by an access, who may, and the second translation, as the document's own calls answer (may, Page, GuestFault, Bad, Guest of the reference): walked whole, for every argument.
-/
import Derived.Test.YtpplclenokfpeaaDoorTwoDoc
import Derived.Test.YtpplclenokfpeaaDoorRefWalk
import Derived.Deep.QuietTactic
import Derived.BigQuiet
namespace Go.Proofs.YtpplclenokfpeaaDoor
open Go.RowKit
theorem results_tmp4 {fn : Func} {t u v x : Tmp} (h : fn.results = #[.tmp t, .tmp u, .tmp v, .tmp x]) (tmps : Array Value) (P : Program) (w : World) :
    (results fn tmps).run P w = .ok (.tuple #[tmps.getD t undef, tmps.getD u undef, tmps.getD v undef, tmps.getD x undef]) w := by
  simp [results, h]
theorem rmayx_of (b k : Int) (user sum mxr exec : Bool) (w : World) :
    Calls Tryd.prog 35 #[.int .i64 b, .int .i64 k, .bool user, .bool sum, .bool mxr, .bool exec] w fun r w' => r = .returned (.bool (mayE b (knd k exec) user sum mxr)) ∧ w' = w := by
  unfold knd
  cases exec
  · rw [cond_false]
    go_enter Tryd.func35, Tryd.ntmps35
    go_wp2_with fail
    refine (rmay_of _ _ _ _ _ _).mono ?_
    rintro r w' ⟨rfl, rfl⟩
    go_wp2
    go_ret
    exact ⟨rfl, rfl⟩
  · rw [cond_true]
    go_enter Tryd.func35, Tryd.ntmps35
    go_wp2_with fail
    refine (rmay_of _ _ _ _ _ _).mono ?_
    rintro r w' ⟨rfl, rfl⟩
    go_wp2
    go_ret
    exact ⟨rfl, rfl⟩
def pageC (k : Int) : Int := if k = 0 then 12 else if k = 1 then 13 else 15
def gfC (k : Int) : Int := if k = 0 then 20 else if k = 1 then 21 else 23
def badC (k : Int) : Int := if k = 0 then 1 else if k = 1 then 5 else 7
theorem rpage_of (k : Int) (hk : k = 0 ∨ k = 1 ∨ k = 2) (w : World) :
    Calls Tryd.prog 32 #[.int .i64 k] w fun r w' => r = .returned (.int .u64 (pageC k)) ∧ Kept w w' := by
  rcases hk with rfl | rfl | rfl
  all_goals
    go_enter Tryd.func32, Tryd.ntmps32
    go_wp2
    go_ret
    exact ⟨rfl, (Only.refl _ w).alloc _⟩
theorem rgf_of (k : Int) (hk : k = 0 ∨ k = 1 ∨ k = 2) (w : World) :
    Calls Tryd.prog 33 #[.int .i64 k] w fun r w' => r = .returned (.int .u64 (gfC k)) ∧ Kept w w' := by
  rcases hk with rfl | rfl | rfl
  all_goals
    go_enter Tryd.func33, Tryd.ntmps33
    go_wp2
    go_ret
    exact ⟨rfl, (Only.refl _ w).alloc _⟩
theorem rbad_of (k : Int) (hk : k = 0 ∨ k = 1 ∨ k = 2) (w : World) :
    Calls Tryd.prog 36 #[.int .i64 k] w fun r w' => r = .returned (.int .u64 (badC k)) ∧ Kept w w' := by
  rcases hk with rfl | rfl | rfl
  all_goals
    go_enter Tryd.func36, Tryd.ntmps36
    go_wp2
    go_ret
    exact ⟨rfl, (Only.refl _ w).alloc _⟩
def wkC (x : Wkd) (v : Value) : Array Value := #[.int .u64 x.e, .int .i64 x.f, .int .i64 x.c, v]
set_option maxRecDepth 10000 in
set_option maxHeartbeats 1000000 in
theorem rguest_out (a : AskM) (place k : Int) (exec : Bool) (h : 65536 ≤ place) {w : World} {p q : Nat} {B : Nat → Int} (_hm : RefAt w p q B) :
    Calls Tryd.prog 16 #[.pointer (some ⟨p, 0, none⟩), .agg (askA a), .int .u64 place, .int .i64 k, .bool exec] w fun e w' => ∃ tv, e = .returned (.tuple #[.int .u64 0, .int .i64 255, .int .i64 1, tv]) ∧ OwnT w.heap.size 2 w' tv ∧ Kept w w' := by
  unfold askA
  go_enter Tryd.func16, Tryd.ntmps16
  go_wp2
  refine bodyPost_ret (results_tmp4 rfl _ _ _) rfl ?_
  exact ⟨_, rfl, ownT_nil _ _ _, (Only.refl _ w).alloc _⟩
set_option maxRecDepth 10000 in
set_option maxHeartbeats 1000000 in
theorem rguest_one (a : AskM) (place k : Int) (exec : Bool) (h : ¬ 65536 ≤ place) (hs : a.second = false) {w : World} {p q : Nat} {B : Nat → Int} (_hm : RefAt w p q B) :
    Calls Tryd.prog 16 #[.pointer (some ⟨p, 0, none⟩), .agg (askA a), .int .u64 place, .int .i64 k, .bool exec] w fun e w' => ∃ tv, e = .returned (.tuple #[.int .u64 place, .int .i64 255, .int .i64 0, tv]) ∧ OwnT w.heap.size 2 w' tv ∧ Kept w w' := by
  unfold askA
  rw [hs]
  go_enter Tryd.func16, Tryd.ntmps16
  go_wp2
  refine bodyPost_ret (results_tmp4 rfl _ _ _) rfl ?_
  exact ⟨_, rfl, ownT_nil _ _ _, (Only.refl _ w).alloc _⟩
set_option maxRecDepth 10000 in
set_option maxHeartbeats 1000000 in
theorem rguest_no (a : AskM) (place k : Int) (exec : Bool) (h : ¬ 65536 ≤ place) (hs : a.second = true) {w : World} {p q : Nat} {B : Nat → Int} (hm : RefAt w p q B) (hc : ¬ (wkS B a.host place).c = 0) :
    Calls Tryd.prog 16 #[.pointer (some ⟨p, 0, none⟩), .agg (askA a), .int .u64 place, .int .i64 k, .bool exec] w fun e w' => ∃ tv, e = .returned (.tuple #[.int .u64 0, .int .i64 255, .int .i64 (wkS B a.host place).c, tv]) ∧ OwnT w.heap.size 2 w' tv ∧ Kept w w' := by
  have hk := (Only.refl (fun _ => False) w).alloc (.cells (askA a) 46)
  have hr := rwalk_any a.host place (hm.kept hk)
  obtain ⟨u0, u1, u2, u3, _⟩ := wk_U hm.byte a.host place
  have hn : ((wkS B a.host place).c != 0) = true := bne_iff_ne.2 hc
  clear u0 u1 u2 u3
  unfold askA at hk hr ⊢
  rw [hs] at hk hr ⊢
  generalize wkS B a.host place = X at *
  go_enter Tryd.func16, Tryd.ntmps16
  go_wp2_with fail
  refine hr.mono ?_
  rintro e w1 ⟨tv, rfl, ot, k1⟩
  obtain ⟨tq, tn, tc, rfl⟩ := ot.form
  have ot2 := (ot.lower (c := w.heap.size) (by rw [Go.Deep.nblk_alloc]; omega)).kept ((Only.refl _ w1).alloc (.cells #[.int .u64 X.e, .int .i64 X.f, .int .i64 X.c, .slice tq tn tc] 88))
  have k2 := (hk.then k1).alloc (.cells #[.int .u64 X.e, .int .i64 X.f, .int .i64 X.c, .slice tq tn tc] 88)
  go_upto_region 7 with fail
  go_quiet (fail)
  go_wp2
  refine bodyPost_ret (results_tmp4 rfl _ _ _) rfl ?_
  exact ⟨_, rfl, ot2.kept ((Only.refl _ _).drewN _), k2.drewN _⟩
set_option maxRecDepth 10000 in
set_option maxHeartbeats 1000000 in
theorem rguest_may (a : AskM) (place k : Int) (exec : Bool) (h : ¬ 65536 ≤ place) (hs : a.second = true) {w : World} {p q : Nat} {B : Nat → Int} (hm : RefAt w p q B) (hc : (wkS B a.host place).c = 0) (hy : mayE ((wkS B a.host place).e % 256) (knd k exec) true false false = false) :
    Calls Tryd.prog 16 #[.pointer (some ⟨p, 0, none⟩), .agg (askA a), .int .u64 place, .int .i64 k, .bool exec] w fun e w' => ∃ tv, e = .returned (.tuple #[.int .u64 0, .int .i64 255, .int .i64 1, tv]) ∧ OwnT w.heap.size 2 w' tv ∧ Kept w w' := by
  have hk := (Only.refl (fun _ => False) w).alloc (.cells (askA a) 46)
  have hr := rwalk_any a.host place (hm.kept hk)
  obtain ⟨u0, u1, u2, u3, _⟩ := wk_U hm.byte a.host place
  have hn : ((wkS B a.host place).c != 0) = false := bne_eq_false_iff_eq.2 hc
  have hb : bits .and .u64 (wkS B a.host place).e 255 = (wkS B a.host place).e % 256 := u_low _ 8 (by omega) 255 rfl
  have hb0 : 0 ≤ (wkS B a.host place).e % 256 := by omega
  have hb1 : (wkS B a.host place).e % 256 < 256 := by omega
  clear hc
  unfold askA at hk hr ⊢
  rw [hs] at hk hr ⊢
  generalize wkS B a.host place = X at *
  go_enter Tryd.func16, Tryd.ntmps16
  go_wp2_with fail
  refine hr.mono ?_
  rintro e w1 ⟨tv, rfl, ot, k1⟩
  obtain ⟨tq, tn, tc, rfl⟩ := ot.form
  have ot2 := (ot.lower (c := w.heap.size) (by rw [Go.Deep.nblk_alloc]; omega)).kept ((Only.refl _ w1).alloc (.cells #[.int .u64 X.e, .int .i64 X.f, .int .i64 X.c, .slice tq tn tc] 88))
  have k2 := (hk.then k1).alloc (.cells #[.int .u64 X.e, .int .i64 X.f, .int .i64 X.c, .slice tq tn tc] 88)
  go_upto_region 10 with (go_at_call 35; refine (rmayx_of _ _ _ _ _ _ _).mono ?_; rintro r wy ⟨rfl, hwy⟩; rw [hwy, hy]; clear hwy wy)
  go_quiet (fail)
  go_wp2
  refine bodyPost_ret (results_tmp4 rfl _ _ _) rfl ?_
  exact ⟨_, rfl, ot2.kept ((Only.refl _ _).drewN _), k2.drewN _⟩
set_option maxRecDepth 10000 in
set_option maxHeartbeats 1000000 in
theorem rguest_yes (a : AskM) (place k : Int) (exec : Bool) (h : ¬ 65536 ≤ place) (hs : a.second = true) {w : World} {p q : Nat} {B : Nat → Int} (hm : RefAt w p q B) (hc : (wkS B a.host place).c = 0) (hy : mayE ((wkS B a.host place).e % 256) (knd k exec) true false false = true) :
    Calls Tryd.prog 16 #[.pointer (some ⟨p, 0, none⟩), .agg (askA a), .int .u64 place, .int .i64 k, .bool exec] w fun e w' => ∃ tv, e = .returned (.tuple #[.int .u64 ((wkS B a.host place).f * 256 + place % 256), .int .i64 ((wkS B a.host place).e % 256), .int .i64 0, tv]) ∧ OwnT w.heap.size 2 w' tv ∧ Kept w w' := by
  have hk := (Only.refl (fun _ => False) w).alloc (.cells (askA a) 46)
  have hr := rwalk_any a.host place (hm.kept hk)
  obtain ⟨u0, u1, u2, u3, _⟩ := wk_U hm.byte a.host place
  have hn : ((wkS B a.host place).c != 0) = false := bne_eq_false_iff_eq.2 hc
  have hb : bits .and .u64 (wkS B a.host place).e 255 = (wkS B a.host place).e % 256 := u_low _ 8 (by omega) 255 rfl
  have hb0 : 0 ≤ (wkS B a.host place).e % 256 := by omega
  have hb1 : (wkS B a.host place).e % 256 < 256 := by omega
  have hp : bits .and .u64 place 255 = place % 256 := u_low _ 8 (by omega) 255 rfl
  have hp0 : 0 ≤ place % 256 := by omega
  have hp1 : place % 256 < 256 := by omega
  have ho := or_8 (a := (wkS B a.host place).f) (b := place % 256) u2 (by omega) hp0 hp1
  clear hc
  unfold askA at hk hr ⊢
  rw [hs] at hk hr ⊢
  generalize wkS B a.host place = X at *
  go_enter Tryd.func16, Tryd.ntmps16
  go_wp2_with fail
  refine hr.mono ?_
  rintro e w1 ⟨tv, rfl, ot, k1⟩
  obtain ⟨tq, tn, tc, rfl⟩ := ot.form
  have ot2 := (ot.lower (c := w.heap.size) (by rw [Go.Deep.nblk_alloc]; omega)).kept ((Only.refl _ w1).alloc (.cells #[.int .u64 X.e, .int .i64 X.f, .int .i64 X.c, .slice tq tn tc] 88))
  have k2 := (hk.then k1).alloc (.cells #[.int .u64 X.e, .int .i64 X.f, .int .i64 X.c, .slice tq tn tc] 88)
  go_upto_region 11 with (go_at_call 35; refine (rmayx_of _ _ _ _ _ _ _).mono ?_; rintro r wy ⟨rfl, hwy⟩; rw [hwy, hy]; clear hwy wy)
  go_quiet (fail)
  go_wp2
  refine bodyPost_ret (results_tmp4 rfl _ _ _) rfl ?_
  exact ⟨_, rfl, ot2.kept ((Only.refl _ _).drewN _), k2.drewN _⟩
theorem rguest_any (a : AskM) (place k : Int) (exec : Bool) {w : World} {p q : Nat} {B : Nat → Int} (hm : RefAt w p q B) :
    Calls Tryd.prog 16 #[.pointer (some ⟨p, 0, none⟩), .agg (askA a), .int .u64 place, .int .i64 k, .bool exec] w fun e w' => ∃ tv, e = .returned (.tuple #[.int .u64 (gstS B a place k exec).p, .int .i64 (gstS B a place k exec).b, .int .i64 (gstS B a place k exec).c, tv]) ∧ OwnT w.heap.size 2 w' tv ∧ Kept w w' := by
  unfold gstS
  by_cases h : 65536 ≤ place
  · rw [if_pos h]
    exact rguest_out a place k exec h hm
  · rw [if_neg h]
    cases hs : a.second
    · rw [if_pos rfl]
      exact rguest_one a place k exec h hs hm
    · rw [if_neg (by simp)]
      by_cases hc : (wkS B a.host place).c = 0
      · rw [if_neg (by simpa using hc)]
        cases hy : mayE ((wkS B a.host place).e % 256) (knd k exec) true false false
        · rw [if_pos rfl]
          exact rguest_may a place k exec h hs hm hc hy
        · rw [if_neg (by simp)]
          exact rguest_yes a place k exec h hs hm hc hy
      · rw [if_pos hc]
        exact rguest_no a place k exec h hs hm hc
end Go.Proofs.YtpplclenokfpeaaDoor
