/-
  What statement CsrPending asks: walked for every argument.
-/
import Derived.Test.YtebdokgfcjlplaaDoorCKnown
namespace Go.Proofs.YtebdokgfcjlplaaDoor
open Go.RowKit
theorem tb_lit1 : ∀ i : Fin 64, tb 1 i.val = decide (i.val = 0) := by decide +kernel
theorem tb_lit32 : ∀ i : Fin 64, tb 32 i.val = decide (i.val = 5) := by decide +kernel
theorem tb_lit512 : ∀ i : Fin 64, tb 512 i.val = decide (i.val = 9) := by decide +kernel
theorem tb_lit1088 : ∀ i : Fin 64, tb 1088 i.val = (decide (i.val = 6) || decide (i.val = 10)) := by decide +kernel
theorem tb_lit1632 : ∀ i : Fin 64, tb 1632 i.val = (decide (i.val = 5) || decide (i.val = 6) || decide (i.val = 9) || decide (i.val = 10)) := by decide +kernel
theorem tb_zero (i : Nat) : tb 0 i = false := by simp [tb]
/-- One bit of a word, as a number. -/
theorem bit_at {x : Int} (hx : U x) (s : Nat) : bits .and .u64 (x / 2 ^ s) 1 = if tb x s then 1 else 0 := by
  have h1 : U 1 := by unfold U; omega
  have h0 : U (if tb x s then 1 else 0) := by unfold U; split <;> omega
  refine (U_and _ _).ext h0 fun i hi => ?_
  rw [tb_and (U_shr hx s) h1, tb_shr hx, tb_lit1 ⟨i, hi⟩]
  by_cases e : i = 0
  · subst e
    rw [Nat.zero_add]
    cases h : tb x s
    · rw [if_neg (by simp), tb_zero]; rfl
    · rw [if_pos rfl, tb_lit1 ⟨0, by omega⟩]; rfl
  · rw [decide_eq_false e, Bool.and_false]
    cases h : tb x s
    · rw [if_neg (by simp), tb_zero]
    · rw [if_pos rfl, tb_lit1 ⟨i, hi⟩, decide_eq_false e]
/-- What waits, with a register's bits. -/
def penV (c : Int) (t l : Bool) : Int := bif l then bits .or .u64 (bif t then bits .or .u64 c 32 else c) 512 else (bif t then bits .or .u64 c 32 else c)
theorem U_penV {c : Int} (hc : U c) (t l : Bool) : U (penV c t l) := by cases t <;> cases l <;> first | exact hc | exact U_or _ _
theorem tb_penV {c : Int} (hc : U c) (t l : Bool) (i : Nat) (hi : i < 64) : tb (penV c t l) i = (tb c i || (t && decide (i = 5)) || (l && decide (i = 9))) := by
  have h32 : U 32 := by unfold U; omega
  have h512 : U 512 := by unfold U; omega
  cases t <;> cases l <;> simp only [penV, cond_true, cond_false, Bool.false_and, Bool.true_and, Bool.or_false]
  · rw [tb_or hc h512, tb_lit512 ⟨i, hi⟩]
  · rw [tb_or hc h32, tb_lit32 ⟨i, hi⟩]
  · rw [tb_or (U_or _ _) h512, tb_or hc h32, tb_lit512 ⟨i, hi⟩, tb_lit32 ⟨i, hi⟩]
def penC (o v : Int) : Int := putI (bits .and .u64 o 1088) v 1088
theorem U_penC (o v : Int) : U (penC o v) := U_put _ _ _
theorem tb_penC {o v : Int} (ho : U o) (hv : U v) (i : Nat) (hi : i < 64) : tb (penC o v) i = (tb v i && (decide (i = 6) || decide (i = 10))) := by
  have hm : U 1088 := by unfold U; omega
  unfold penC putI
  rw [tb_or (U_andNot _ _) (U_and _ _), tb_andNot (U_and _ _) hm i hi, tb_and ho hm, tb_and hv hm, tb_lit1088 ⟨i, hi⟩]
  cases tb o i <;> cases tb v i <;> cases decide (i = 6) <;> cases decide (i = 10) <;> rfl
theorem U_pq (o v : Int) (t l : Bool) : U (penV (penC o v) t l) := U_penV (U_penC o v) t l
theorem p5 {o v : Int} (ho : U o) (hv : U v) (t l : Bool) : ((bits .and .u64 (penV (penC o v) t l / 32) 1 == 1) == t) = true := by
  have e := bit_at (U_pq o v t l) 5
  rw [show (2 : Int) ^ 5 = 32 from rfl] at e
  rw [e, tb_penV (U_penC o v) t l 5 (by omega), tb_penC ho hv 5 (by omega)]
  cases t <;> cases l <;> cases tb v 5 <;> rfl
theorem p9 {o v : Int} (ho : U o) (hv : U v) (t l : Bool) : ((bits .and .u64 (penV (penC o v) t l / 512) 1 == 1) == l) = true := by
  have e := bit_at (U_pq o v t l) 9
  rw [show (2 : Int) ^ 9 = 512 from rfl] at e
  rw [e, tb_penV (U_penC o v) t l 9 (by omega), tb_penC ho hv 9 (by omega)]
  cases t <;> cases l <;> cases tb v 9 <;> rfl
theorem p6 {o v : Int} (ho : U o) (hv : U v) (t l : Bool) : (bits .and .u64 (penV (penC o v) t l / 64) 1 == bits .and .u64 (v / 64) 1) = true := by
  have e := bit_at (U_pq o v t l) 6
  have e' := bit_at hv 6
  rw [show (2 : Int) ^ 6 = 64 from rfl] at e e'
  rw [e, e', tb_penV (U_penC o v) t l 6 (by omega), tb_penC ho hv 6 (by omega)]
  cases t <;> cases l <;> cases tb v 6 <;> rfl
theorem p10 {o v : Int} (ho : U o) (hv : U v) (t l : Bool) : (bits .and .u64 (penV (penC o v) t l / 1024) 1 == bits .and .u64 (v / 1024) 1) = true := by
  have e := bit_at (U_pq o v t l) 10
  have e' := bit_at hv 10
  rw [show (2 : Int) ^ 10 = 1024 from rfl] at e e'
  rw [e, e', tb_penV (U_penC o v) t l 10 (by omega), tb_penC ho hv 10 (by omega)]
  cases t <;> cases l <;> cases tb v 10 <;> rfl
theorem pz {o v : Int} (ho : U o) (hv : U v) (t l : Bool) : (bits .andNot .u64 (penV (penC o v) t l) 1632 == 0) = true := by
  have h : bits .andNot .u64 (penV (penC o v) t l) 1632 = 0 := by
    refine (U_andNot _ _).ext (by unfold U; omega) fun i hi => ?_
    rw [tb_andNot (U_pq o v t l) (by unfold U; omega) i hi, tb_penV (U_penC o v) t l i hi, tb_penC ho hv i hi, tb_lit1632 ⟨i, hi⟩, tb_zero]
    cases t <;> cases l <;> cases tb v i <;> cases decide (i = 5) <;> cases decide (i = 6) <;> cases decide (i = 9) <;> cases decide (i = 10) <;> rfl
  rw [h]; rfl
theorem pen_is (S : StM) (v : Int) (t l : Bool) : penI (wrS (S.setC 19 (bits .and .u64 (S.C 19) 1088)) 1605 v) t l = penV (penC (S.C 19) v) t l := rfl
theorem ok1605 : okC 1605 = true := by decide +kernel
set_option maxRecDepth 10000 in
set_option maxHeartbeats 1000000 in
theorem cpending_any (S : StM) (hS : S.Ok) (v : Int) (hv : U v) (t l : Bool) {W : World} (hT : Tab8 W) :
    Calls Tryd.prog 8 #[.agg (rowOf 65 (stF S)), .int .u64 v, .bool t, .bool l] W fun e w' => e = .returned (.bool true) ∧ Kept W w' := by
  have f5 := p5 (hS.C 19 (by omega)) hv t l
  have f9 := p9 (hS.C 19 (by omega)) hv t l
  have f6 := p6 (hS.C 19 (by omega)) hv t l
  have f10 := p10 (hS.C 19 (by omega)) hv t l
  have fz := pz (hS.C 19 (by omega)) hv t l
  have q0 := (U_pq (S.C 19) v t l).1
  have v0 := hv.1
  go_enter Tryd.func8, Tryd.ntmps8
  go_wp2_with fail
  refine (known8_any hT ((Only.refl _ W).alloc _)).mono ?_
  rintro e w1 ⟨rfl, g1⟩
  have k1 := kept_boxed g1
  have h1 := (st_new W S).kept g1
  have c1 := h1.c (i := 19) (by omega)
  have z1 := World.rowIs.frozen h1 (35 + 19)
  have h2 := h1.set (i := 19) (by omega) (bits .and .u64 (S.C 19) 1088)
  have k2 : Kept W (w1.setCell ⟨W.heap.size, 35 + 19, none⟩ (.int .u64 (bits .and .u64 (S.C 19) 1088))) := k1.new ((Only.refl (fun j => j = W.heap.size) w1).setCell (x := ⟨W.heap.size, 35 + 19, none⟩) rfl _) (fun j hj => by rw [hj]; exact Nat.le_refl _)
  have hS2 := hS.setC 19 (U_and (S.C 19) 1088)
  go_wp2_with refine wpList_load_is (by rfl) 26 _ rfl rfl h2 _ Tryd.underlying26 rfl st_size ?_
  refine (cwrite_any (hT.kept k2) hS2 _ _ hv).mono ?_
  rintro e w3 ⟨rfl, g3⟩
  rw [ok1605]
  have k3 := (k2.then g3).alloc (.cells (rowOf 65 (stF (wrS (S.setC 19 (bits .and .u64 (S.C 19) 1088)) 1605 v))) 26)
  have h3 := st_new w3 (wrS (S.setC 19 (bits .and .u64 (S.C 19) 1088)) 1605 v)
  go_wp2_with first | refine wpList_alloc_is rfl 26 rfl (rowOf 65 zF) st_zero ?_ | (refine wpList_store_is rfl 26 _ _ rfl rfl rfl (row_alloc _ 65 zF _) st_size (fun i _ => stF_one _ i) ?_; rw [World.setRow_alloc_new]) | refine wpList_load_is (by rfl) 26 _ rfl rfl h3 _ Tryd.underlying26 rfl st_size ?_
  refine (cpen_any (hT.kept k3) (hS2.write _ _) _ _).mono ?_
  rintro e w4 ⟨rfl, g4⟩
  rw [pen_is]
  go_wp2
  go_ret
  exact ⟨rfl, k3.then g4⟩
end Go.Proofs.YtebdokgfcjlplaaDoor
