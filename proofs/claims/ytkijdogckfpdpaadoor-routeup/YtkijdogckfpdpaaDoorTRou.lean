/-
  What package route's Interrupt answers: the rows of its table one behind the other, walked for every argument.
-/
import Derived.Test.YtkijdogckfpdpaaDoorTRouA
import Derived.Test.YtkijdogckfpdpaaDoorLaid
namespace Go.Proofs.YtkijdogckfpdpaaDoor
open Go.RowKit
/-- The cells of the table, one behind the other. -/
def ordL : List Value := flatD 4 (Rows.laid_sallyport_route_order (H := Unit))
structure Tab15 (w : World) : Prop where
  o : ∀ i v, ordL[i]? = some v → w.cell? ⟨0, i, none⟩ = some v
theorem Tab15.kept {w w' : World} (h : Tab15 w) (k : Kept w w') : Tab15 w' := ⟨fun i v e => k.cell (h.o i v e)⟩
theorem ord_len : ordL.length = 48 := by decide +kernel
theorem ord_size : (Tryd.prog.info? 42).map (·.size) = some ordL.length := by rw [ord_len]; kernel_rfl
def oB (k : Nat) : Int := ([9, 5, 9, 5, 10, 6, 10, 6] : List Int).getD k 0
def oC (k : Nat) : Nat := ([2, 2, 2, 2, 18, 18, 18, 18] : List Nat).getD k 0
def oS (k : Nat) : Bool := ([false, false, true, true, false, false, true, true] : List Bool).getD k false
def oL (k : Nat) : Int := ([3, 3, 1, 1, 1, 1, 1, 1] : List Int).getD k 0
def oV (k : Nat) : Bool := ([false, false, false, false, false, false, true, true] : List Bool).getD k false
def oN (k : Nat) : Int := ([9, 5, 9, 5, 10, 6, 9, 5] : List Int).getD k 0
def ordR (k : Nat) : Array Value := #[.int .u64 (oB k), .int .i64 (oC k : Int), .bool (oS k), .int .i64 (oL k), .bool (oV k), .int .u64 (oN k)]
theorem ord_row0 (w : World) : (Instr.index 42 (.agg ordL.toArray) (.int .i64 0)).run Tryd.prog w = .ok (.agg (ordR 0)) w := by kernel_rfl
theorem ord_row1 (w : World) : (Instr.index 42 (.agg ordL.toArray) (.int .i64 1)).run Tryd.prog w = .ok (.agg (ordR 1)) w := by kernel_rfl
theorem ord_row2 (w : World) : (Instr.index 42 (.agg ordL.toArray) (.int .i64 2)).run Tryd.prog w = .ok (.agg (ordR 2)) w := by kernel_rfl
theorem ord_row3 (w : World) : (Instr.index 42 (.agg ordL.toArray) (.int .i64 3)).run Tryd.prog w = .ok (.agg (ordR 3)) w := by kernel_rfl
theorem ord_row4 (w : World) : (Instr.index 42 (.agg ordL.toArray) (.int .i64 4)).run Tryd.prog w = .ok (.agg (ordR 4)) w := by kernel_rfl
theorem ord_row5 (w : World) : (Instr.index 42 (.agg ordL.toArray) (.int .i64 5)).run Tryd.prog w = .ok (.agg (ordR 5)) w := by kernel_rfl
theorem ord_row6 (w : World) : (Instr.index 42 (.agg ordL.toArray) (.int .i64 6)).run Tryd.prog w = .ok (.agg (ordR 6)) w := by kernel_rfl
theorem ord_row7 (w : World) : (Instr.index 42 (.agg ordL.toArray) (.int .i64 7)).run Tryd.prog w = .ok (.agg (ordR 7)) w := by kernel_rfl
theorem lt8 {k : Nat} (h : k < 8) : k = 0 ∨ k = 1 ∨ k = 2 ∨ k = 3 ∨ k = 4 ∨ k = 5 ∨ k = 6 ∨ k = 7 := by omega
theorem ord_row (k : Nat) (hk : k < 8) (w : World) : (Instr.index 42 (.agg ordL.toArray) (.int .i64 (k : Int))).run Tryd.prog w = .ok (.agg (ordR k)) w := by
  rcases lt8 hk with rfl | rfl | rfl | rfl | rfl | rfl | rfl | rfl
  · exact ord_row0 w
  · exact ord_row1 w
  · exact ord_row2 w
  · exact ord_row3 w
  · exact ord_row4 w
  · exact ord_row5 w
  · exact ord_row6 w
  · exact ord_row7 w
def mayO (S : StM) (k : Nat) : Bool := bif decide (k < 2) then mayM S else bif decide (k < 6) then mayH S else mayG S
/-- Whether a row's interrupt comes. -/
def rowB (S : StM) (on : Int) (k : Nat) : Bool := hasB on (oB k) && ((hasB (S.C (oC k)) (oB k) == oS k) && mayO S k)
def ansO (k : Nat) : IntM := ⟨bits .or .u64 9223372036854775808 (oN k), oL k, oV k, true⟩
theorem may_off (x : Int) (F : Nat → IntM) (R : IntM) : ∀ l : List Nat, l.foldr (fun k r => bif tb x k && false then F k else r) R = R
  | [] => rfl
  | k :: r => by
    rw [List.foldr_cons, Bool.and_false, cond_false]
    exact may_off x F R r
/-- One search, told bit by bit. -/
theorem stage (x : Int) (may : Bool) (G : Int → IntM) (R : IntM) : ∀ l : List Nat, (if 0 ≤ topI x l ∧ may = true then G (topI x l) else R) = l.foldr (fun k r => bif tb x k && may then G (k : Int) else r) R
  | [] => by
    show (if 0 ≤ (-1 : Int) ∧ may = true then G (-1) else R) = R
    rw [if_neg (by omega)]
  | k :: r => by
    rw [List.foldr_cons]
    show (if 0 ≤ (bif tb x k then (k : Int) else topI x r) ∧ may = true then G (bif tb x k then (k : Int) else topI x r) else R) = _
    cases ht : tb x k
    · rw [cond_false, Bool.false_and, cond_false]
      exact stage x may G R r
    · rw [cond_true, Bool.true_and]
      cases may
      · rw [cond_false, if_neg (by simp)]
        exact (may_off x (fun k => G (k : Int)) R r).symm
      · rw [cond_true, if_pos ⟨by omega, rfl⟩]
theorem tb_544 : ∀ i : Fin 64, tb 544 i.val = (decide (i.val = 5) || decide (i.val = 9)) := by decide +kernel
theorem tb_1088 : ∀ i : Fin 64, tb 1088 i.val = (decide (i.val = 6) || decide (i.val = 10)) := by decide +kernel
theorem U_544 : U 544 := by unfold U; omega
theorem U_1088 : U 1088 := by unfold U; omega
theorem mine_b {S : StM} (hS : S.Ok) {on : Int} (hon : U on) {k : Nat} (hk : k = 5 ∨ k = 9) : tb (mineI S on) k = (tb on k && !tb (S.C 2) k) := by
  have h64 : k < 64 := by omega
  unfold mineI
  rw [tb_andNot (U_and _ _) (hS.C 2 (by omega)) k h64, tb_and hon U_544, tb_544 ⟨k, h64⟩]
  rcases hk with rfl | rfl <;> simp
theorem host_b {S : StM} (hS : S.Ok) {on : Int} (hon : U on) {k : Nat} (hk : k = 5 ∨ k = 9) : tb (hostI S on) k = (tb on k && tb (S.C 2) k) := by
  have h64 : k < 64 := by omega
  unfold hostI
  rw [tb_or (U_and _ _) (U_andNot _ _), tb_and (U_and _ _) (hS.C 2 (by omega)), tb_and hon U_544, tb_544 ⟨k, h64⟩, tb_andNot (U_and _ _) (hS.C 18 (by omega)) k h64, tb_and hon U_1088, tb_1088 ⟨k, h64⟩]
  rcases hk with rfl | rfl <;> simp
theorem host_g {S : StM} (hS : S.Ok) {on : Int} (hon : U on) {k : Nat} (hk : k = 6 ∨ k = 10) : tb (hostI S on) k = (tb on k && !tb (S.C 18) k) := by
  have h64 : k < 64 := by omega
  unfold hostI
  rw [tb_or (U_and _ _) (U_andNot _ _), tb_and (U_and _ _) (hS.C 2 (by omega)), tb_and hon U_544, tb_544 ⟨k, h64⟩, tb_andNot (U_and _ _) (hS.C 18 (by omega)) k h64, tb_and hon U_1088, tb_1088 ⟨k, h64⟩]
  rcases hk with rfl | rfl <;> simp
theorem gst_b {S : StM} (hS : S.Ok) {on : Int} (hon : U on) {k : Nat} (hk : k = 6 ∨ k = 10) : tb (gstI S on) k = (tb on k && tb (S.C 18) k) := by
  have h64 : k < 64 := by omega
  unfold gstI
  rw [tb_and (U_and _ _) (hS.C 18 (by omega)), tb_and hon U_1088, tb_1088 ⟨k, h64⟩]
  rcases hk with rfl | rfl <;> simp
theorem row_0 (S : StM) (on : Int) : rowB S on 0 = (tb on 9 && ((!tb (S.C 2) 9) && mayM S)) := by unfold rowB; rw [show oB 0 = ((9 : Nat) : Int) from rfl, has_at (by omega), has_at (by omega), show oC 0 = 2 from rfl, show oS 0 = false from rfl, show mayO S 0 = mayM S from rfl]; cases tb (S.C 2) 9 <;> rfl
theorem row_1 (S : StM) (on : Int) : rowB S on 1 = (tb on 5 && ((!tb (S.C 2) 5) && mayM S)) := by unfold rowB; rw [show oB 1 = ((5 : Nat) : Int) from rfl, has_at (by omega), has_at (by omega), show oC 1 = 2 from rfl, show oS 1 = false from rfl, show mayO S 1 = mayM S from rfl]; cases tb (S.C 2) 5 <;> rfl
theorem row_2 (S : StM) (on : Int) : rowB S on 2 = (tb on 9 && (tb (S.C 2) 9 && mayH S)) := by unfold rowB; rw [show oB 2 = ((9 : Nat) : Int) from rfl, has_at (by omega), has_at (by omega), show oC 2 = 2 from rfl, show oS 2 = true from rfl, show mayO S 2 = mayH S from rfl]; cases tb (S.C 2) 9 <;> rfl
theorem row_3 (S : StM) (on : Int) : rowB S on 3 = (tb on 5 && (tb (S.C 2) 5 && mayH S)) := by unfold rowB; rw [show oB 3 = ((5 : Nat) : Int) from rfl, has_at (by omega), has_at (by omega), show oC 3 = 2 from rfl, show oS 3 = true from rfl, show mayO S 3 = mayH S from rfl]; cases tb (S.C 2) 5 <;> rfl
theorem row_4 (S : StM) (on : Int) : rowB S on 4 = (tb on 10 && ((!tb (S.C 18) 10) && mayH S)) := by unfold rowB; rw [show oB 4 = ((10 : Nat) : Int) from rfl, has_at (by omega), has_at (by omega), show oC 4 = 18 from rfl, show oS 4 = false from rfl, show mayO S 4 = mayH S from rfl]; cases tb (S.C 18) 10 <;> rfl
theorem row_5 (S : StM) (on : Int) : rowB S on 5 = (tb on 6 && ((!tb (S.C 18) 6) && mayH S)) := by unfold rowB; rw [show oB 5 = ((6 : Nat) : Int) from rfl, has_at (by omega), has_at (by omega), show oC 5 = 18 from rfl, show oS 5 = false from rfl, show mayO S 5 = mayH S from rfl]; cases tb (S.C 18) 6 <;> rfl
theorem row_6 (S : StM) (on : Int) : rowB S on 6 = (tb on 10 && (tb (S.C 18) 10 && mayG S)) := by unfold rowB; rw [show oB 6 = ((10 : Nat) : Int) from rfl, has_at (by omega), has_at (by omega), show oC 6 = 18 from rfl, show oS 6 = true from rfl, show mayO S 6 = mayG S from rfl]; cases tb (S.C 18) 10 <;> rfl
theorem row_7 (S : StM) (on : Int) : rowB S on 7 = (tb on 6 && (tb (S.C 18) 6 && mayG S)) := by unfold rowB; rw [show oB 7 = ((6 : Nat) : Int) from rfl, has_at (by omega), has_at (by omega), show oC 7 = 18 from rfl, show oS 7 = true from rfl, show mayO S 7 = mayG S from rfl]; cases tb (S.C 18) 6 <;> rfl
def fstO (r : Nat → Bool) : IntM := bif r 0 then ansO 0 else bif r 1 then ansO 1 else bif r 2 then ansO 2 else bif r 3 then ansO 3 else bif r 4 then ansO 4 else bif r 5 then ansO 5 else bif r 6 then ansO 6 else bif r 7 then ansO 7 else ⟨0, 0, false, false⟩
theorem U_en (S : StM) (t l : Bool) : U (enI S t l) := U_and _ _
theorem int_rows {S : StM} (hS : S.Ok) (t l : Bool) : intM S t l = fstO (rowB S (enI S t l)) := by
  have hon := U_en S t l
  unfold fstO
  rw [row_0, row_1, row_2, row_3, row_4, row_5, row_6, row_7]
  unfold intM
  generalize enI S t l = on at *
  rw [stage (mineI S on) (mayM S) (fun c => ⟨bits .or .u64 9223372036854775808 c, 3, false, true⟩) _ [9, 5],
    stage (hostI S on) (mayH S) (fun c => ⟨bits .or .u64 9223372036854775808 c, 1, false, true⟩) _ [9, 5, 10, 6],
    stage (gstI S on) (mayG S) (fun c => ⟨bits .or .u64 9223372036854775808 (c - 1), 1, true, true⟩) _ [10, 6]]
  simp only [List.foldr_cons, List.foldr_nil]
  rw [mine_b hS hon (.inr rfl), mine_b hS hon (.inl rfl), host_b hS hon (.inr rfl), host_b hS hon (.inl rfl), host_g hS hon (.inr rfl), host_g hS hon (.inl rfl), gst_b hS hon (.inr rfl), gst_b hS hon (.inl rfl)]
  simp only [Bool.and_assoc]
  rfl
theorem int_first {S : StM} (hS : S.Ok) (t l : Bool) {k : Nat} (hk : k < 8) (hy : rowB S (enI S t l) k = true) (hn : ∀ j, j < k → rowB S (enI S t l) j = false) : intM S t l = ansO k := by
  rw [int_rows hS]
  unfold fstO
  rcases lt8 hk with rfl | rfl | rfl | rfl | rfl | rfl | rfl | rfl
  all_goals simp [hn, hy]
theorem int_none {S : StM} (hS : S.Ok) (t l : Bool) (hn : ∀ j, j < 8 → rowB S (enI S t l) j = false) : intM S t l = ⟨0, 0, false, false⟩ := by
  rw [int_rows hS]
  unfold fstO
  simp [hn]
section
variable {w : World} {S : StM}
theorem rtmay_row (hS : S.Ok) (hL : LvO S) {k : Nat} (hk : k < 8) :
    Calls Tryd.prog 18 #[.agg (rowOf 65 (stF S)), .int .i64 (oL k), .bool (oV k)] w fun e w' => e = .returned (.bool (mayO S k)) ∧ Kept w w' := by
  rcases lt8 hk with rfl | rfl | rfl | rfl | rfl | rfl | rfl | rfl
  · exact rtmay_m hS hL
  · exact rtmay_m hS hL
  · exact rtmay_h hS hL
  · exact rtmay_h hS hL
  · exact rtmay_h hS hL
  · exact rtmay_h hS hL
  · exact rtmay_g hS hL
  · exact rtmay_g hS hL
theorem U_oB {k : Nat} (hk : k < 8) : U (oB k) := by
  rcases lt8 hk with rfl | rfl | rfl | rfl | rfl | rfl | rfl | rfl
  all_goals (unfold U oB; simp)
theorem oC_lt {k : Nat} (hk : k < 8) : oC k < 29 := by
  rcases lt8 hk with rfl | rfl | rfl | rfl | rfl | rfl | rfl | rfl
  all_goals (unfold oC; simp)
theorem run_load15b {w : World} {b o : Nat} {v : Value} {ty : TypeId} {d : TypeDesc} (h : w.cell? ⟨b, o, none⟩ = some v) (hd : (match d with | .struct _ | .array _ _ => false | _ => true) = true) (hu : Tryd.prog.underlying ty = some d) : (loadVar ty ⟨b, o, none⟩).run Tryd.prog w = .ok v w := by
  have hagg : (isAgg ty).run Tryd.prog w = .ok false w := by
    unfold isAgg
    rw [Sem.run_bind, run_underlying hu w]
    cases d <;> simp_all
  simp [loadVar, Sem.run_bind, hagg, h, go_sem]
theorem st_kept15b {w w' : World} {b : Nat} {S : StM} (h : StAt w b S) (g : Kept w w') : StAt w' b S := World.rowIs.of_block h (g.same b (World.rowIs.lt h) id)
set_option maxRecDepth 10000 in
set_option maxHeartbeats 1000000 in
theorem cpen15 (S : StM) (t l : Bool) (w : World) :
    Calls Tryd.prog 21 #[.agg (rowOf 65 (stF S)), .bool t, .bool l] w fun e w' => e = .returned (.int .u64 (penI S t l)) ∧ Kept w w' := by
  have hc := (st_new w S).c (i := 19) (by omega)
  cases t <;> cases l
  all_goals
    go_enter Tryd.func21, Tryd.ntmps21
    go_wp2
    go_ret
    exact ⟨rfl, (Only.refl _ w).alloc _⟩
theorem results_four15 {fn : Func} {t u v x : Tmp} (h : fn.results = #[.tmp t, .tmp u, .tmp v, .tmp x]) (tmps : Array Value) (P : Program) (w : World) :
    (results fn tmps).run P w = .ok (.tuple #[tmps.getD t undef, tmps.getD u undef, tmps.getD v undef, tmps.getD x undef]) w := by
  simp [results, h]
set_option maxRecDepth 10000 in
set_option maxHeartbeats 1000000 in
theorem rtena_any0 (t l : Bool) :
    Calls Tryd.prog 13 #[.agg (rowOf 65 (stF S)), .bool t, .bool l] w fun e w' => e = .returned (.int .u64 (enI S t l)) ∧ Kept w w' := by
  have h0 := st_new w S
  have k0 := (Only.refl (fun _ => False) w).alloc (.cells (rowOf 65 (stF S)) 26)
  go_enter Tryd.func13, Tryd.ntmps13
  go_upto_region 1 with fail
  generalize w.alloc (.cells (rowOf 65 (stF S)) 26) = w1 at *
  generalize w.heap.size = bb at *
  have kd : Kept w1 w1.drew := (Only.refl _ w1).drew
  have s9 := st_kept15b h0 kd
  have k9 := k0.then kd
  clear h0 k0 kd
  refine wp_region_held_drew (S := fun w2 => Kept w1.drew w2) (by kernel_rfl) (Only.refl _ _) (fun hHeld => ?_)
  generalize w1.drew = wd at *
  refine wpAnyH_take (i := 0) (v := .agg (rowOf 65 (stF S))) rfl (by kernel_rfl) (by kernel_rfl) (by kernel_rfl) (fun _ _ _ h => h) (Or.inl ⟨by rfl, ?_⟩) hHeld ?_
  · intro w2 hSw
    exact exec_load rfl rfl (load_state (st_kept15b s9 hSw))
  try simp only [Act.put, List.getElem_toArray, List.getElem_cons_zero, List.setIfInBounds_toArray, List.set_cons_zero, List.set_cons_succ]
  refine wpAnyH_take (i := 1) (v := ?_) rfl (by kernel_rfl) (by kernel_rfl) (by kernel_rfl) (fun _ _ _ h => h) (Or.inl ⟨by rfl, ?_⟩) hHeld ?_
  rotate_left
  · intro w2 hSw
    go_simp
    all_goals rfl
  try simp only [Act.put, List.getElem_toArray, List.getElem_cons_zero, List.getElem_cons_succ, List.setIfInBounds_toArray, List.set_cons_zero, List.set_cons_succ]
  refine wpAnyH_take (i := 2) (v := ?_) rfl (by kernel_rfl) (by kernel_rfl) (by kernel_rfl) (fun _ _ _ h => h) (Or.inl ⟨by rfl, ?_⟩) hHeld ?_
  rotate_left
  · intro w2 hSw
    go_simp
    all_goals rfl
  try simp only [Act.put, List.getElem_toArray, List.getElem_cons_zero, List.getElem_cons_succ, List.setIfInBounds_toArray, List.set_cons_zero, List.set_cons_succ]
  refine wpAnyH_take (i := 4) (v := ?_) rfl (by kernel_rfl) (by kernel_rfl) (by kernel_rfl) (fun _ _ _ h => h) (Or.inl ⟨by rfl, ?_⟩) hHeld ?_
  rotate_left
  · intro w2 hSw
    go_simp
    all_goals rfl
  try simp only [Act.put, List.getElem_toArray, List.getElem_cons_zero, List.getElem_cons_succ, List.setIfInBounds_toArray, List.set_cons_zero, List.set_cons_succ]
  refine wpAnyH_take (i := 5) (v := ?_) rfl (by kernel_rfl) (by kernel_rfl) (by kernel_rfl) (fun _ _ _ h => h) (Or.inl ⟨by rfl, ?_⟩) hHeld ?_
  rotate_left
  · intro w2 hSw
    go_simp
    all_goals rfl
  try simp only [Act.put, List.getElem_toArray, List.getElem_cons_zero, List.getElem_cons_succ, List.setIfInBounds_toArray, List.set_cons_zero, List.set_cons_succ]
  refine wpAnyH_take (i := 6) (v := .int .u64 (S.C 3)) rfl (by kernel_rfl) (by kernel_rfl) (by kernel_rfl) (fun _ _ _ h => h) (Or.inl ⟨by rfl, ?_⟩) hHeld ?_
  · intro w2 hSw
    exact exec_load rfl rfl (run_load15b ((st_kept15b s9 hSw).c (i := 3) (by omega)) rfl Tryd.underlying22)
  try simp only [Act.put, List.getElem_toArray, List.getElem_cons_zero, List.getElem_cons_succ, List.setIfInBounds_toArray, List.set_cons_zero, List.set_cons_succ]
  refine wpAnyH_ready (rs := [3]) (by kernel_rfl) (by simp) ?_
  refine AllReadyH.cons rfl (fun K hK => ?_) AllReadyH.nil
  go_simp
  refine (cpen15 S t l _).mono ?_
  rintro r wn ⟨rfl, kn⟩
  go_simp
  refine hK.out _ _ kn (fun hHeld => ?_)
  clear hK K
  try simp only [Act.put, List.getElem_toArray, List.getElem_cons_zero, List.getElem_cons_succ, List.setIfInBounds_toArray, List.set_cons_zero, List.set_cons_succ]
  refine wpAnyH_take (i := 7) (v := ?_) rfl (by kernel_rfl) (by kernel_rfl) (by kernel_rfl) (fun _ _ _ h => h) (Or.inl ⟨by rfl, ?_⟩) hHeld ?_
  rotate_left
  · intro w2 hSw
    go_simp
    all_goals rfl
  try simp only [Act.put, List.getElem_toArray, List.getElem_cons_zero, List.getElem_cons_succ, List.setIfInBounds_toArray, List.set_cons_zero, List.set_cons_succ]
  refine wpAnyH_take (i := 8) (v := ?_) rfl (by kernel_rfl) (by kernel_rfl) (by kernel_rfl) (fun _ _ _ h => h) (Or.inl ⟨by rfl, ?_⟩) hHeld ?_
  rotate_left
  · intro w2 hSw
    go_simp
    all_goals rfl
  try simp only [Act.put, List.getElem_toArray, List.getElem_cons_zero, List.getElem_cons_succ, List.setIfInBounds_toArray, List.set_cons_zero, List.set_cons_succ]
  refine wpAnyH_done (by kernel_rfl) ?_ _
  go_wp2
  go_ret
  exact ⟨rfl, k9.then kn⟩
set_option maxRecDepth 20000 in
set_option maxHeartbeats 8000000 in
theorem rtint_any0 (hT : Tab15 w) (hS : S.Ok) (hL : LvO S) (t l : Bool) :
    Calls Tryd.prog 11 #[.agg (rowOf 65 (stF S)), .bool t, .bool l] w fun e w' => e = .returned (intV (intM S t l)) ∧ Kept w w' := by
  have hon := U_en S t l
  have h0 := st_new w S
  have k0 := (Only.refl (fun _ => False) w).alloc (.cells (rowOf 65 (stF S)) 26)
  have hfirst := fun k hk hy hn => int_first hS t l (k := k) hk hy hn
  have hnone := fun hn => int_none hS t l hn
  go_enter Tryd.func11, Tryd.ntmps11
  go_upto_region 1 with fail
  generalize w.alloc (.cells (rowOf 65 (stF S)) 26) = w1 at *
  generalize w.heap.size = bb at *
  go_wp2_with (first | (refine wpList_load_is (by rfl) 26 _ rfl rfl h0 _ Tryd.underlying26 rfl st_size ?_) | fail)
  refine (rtena_any0 t l).mono ?_
  rintro r w2 ⟨rfl, k2⟩
  have h2 := st_kept15b h0 k2
  have kk := k0.then k2
  have hT2 := hT.kept kk
  clear h0 k0 k2 hT
  generalize enI S t l = on at *
  go_wp2_with (first | (refine wpList_load_list rfl 42 _ rfl 0 rfl ordL _ hT2.o Tryd.underlying42 rfl ord_size ?_))
  go_loopw [18] (fun i wr => ∃ k : Nat, k ≤ 8 ∧ i = .int .i64 (k : Int) ∧ (∀ j, j < k → rowB S on j = false) ∧ Kept w2 wr) (fun i _ => 8 - (intOf i).toNat)
  case atStart => exact ⟨0, Nat.zero_le _, rfl, fun _ h => absurd h (Nat.not_lt_zero _), Only.refl _ _⟩
  case round =>
    obtain ⟨k, hk, rfl, hbf, hg⟩ := hrel
    by_cases hk8 : k < 8
    · have l1 : (k : Int) < 8 := by omega
      have hx := ord_row k hk8
      unfold ordR at hx
      have uB := U_oB hk8
      have lC := oC_lt hk8
      have uC : U (S.C (oC k)) := hS.C (oC k) lC
      have hr : rowB S on k = (hasB on (oB k) && ((hasB (S.C (oC k)) (oB k) == oS k) && mayO S k)) := rfl
      go_upto_region 5 with fail
      have hs0 := st_kept15b h2 (hg.alloc (.cells #[.int .u64 (oB k), .int .i64 (oC k : Int), .bool (oS k), .int .i64 (oL k), .bool (oV k), .int .u64 (oN k)] 41))
      have kq := hg.alloc (.cells #[.int .u64 (oB k), .int .i64 (oC k : Int), .bool (oS k), .int .i64 (oL k), .bool (oV k), .int .u64 (oN k)] 41)
      have c0 : (wr.alloc (.cells #[.int .u64 (oB k), .int .i64 (oC k : Int), .bool (oS k), .int .i64 (oL k), .bool (oV k), .int .u64 (oN k)] 41)).cell? ⟨wr.heap.size, 0, none⟩ = some (.int .u64 (oB k)) := by
        rw [World.cell?, Go.Deep.blk_alloc_new wr _]; rfl
      have c1 : (wr.alloc (.cells #[.int .u64 (oB k), .int .i64 (oC k : Int), .bool (oS k), .int .i64 (oL k), .bool (oV k), .int .u64 (oN k)] 41)).cell? ⟨wr.heap.size, 1, none⟩ = some (.int .i64 (oC k : Int)) := by
        rw [World.cell?, Go.Deep.blk_alloc_new wr _]; rfl
      have c2 : (wr.alloc (.cells #[.int .u64 (oB k), .int .i64 (oC k : Int), .bool (oS k), .int .i64 (oL k), .bool (oV k), .int .u64 (oN k)] 41)).cell? ⟨wr.heap.size, 2, none⟩ = some (.bool (oS k)) := by
        rw [World.cell?, Go.Deep.blk_alloc_new wr _]; rfl
      have c3 : (wr.alloc (.cells #[.int .u64 (oB k), .int .i64 (oC k : Int), .bool (oS k), .int .i64 (oL k), .bool (oV k), .int .u64 (oN k)] 41)).cell? ⟨wr.heap.size, 3, none⟩ = some (.int .i64 (oL k)) := by
        rw [World.cell?, Go.Deep.blk_alloc_new wr _]; rfl
      have c4 : (wr.alloc (.cells #[.int .u64 (oB k), .int .i64 (oC k : Int), .bool (oS k), .int .i64 (oL k), .bool (oV k), .int .u64 (oN k)] 41)).cell? ⟨wr.heap.size, 4, none⟩ = some (.bool (oV k)) := by
        rw [World.cell?, Go.Deep.blk_alloc_new wr _]; rfl
      have c5 : (wr.alloc (.cells #[.int .u64 (oB k), .int .i64 (oC k : Int), .bool (oS k), .int .i64 (oL k), .bool (oV k), .int .u64 (oN k)] 41)).cell? ⟨wr.heap.size, 5, none⟩ = some (.int .u64 (oN k)) := by
        rw [World.cell?, Go.Deep.blk_alloc_new wr _]; rfl
      generalize wr.alloc (.cells #[.int .u64 (oB k), .int .i64 (oC k : Int), .bool (oS k), .int .i64 (oL k), .bool (oV k), .int .u64 (oN k)] 41) = w4 at *
      generalize wr.heap.size = ob at *
      have kd : Kept w4 w4.drew := (Only.refl _ w4).drew
      have hs := st_kept15b hs0 kd
      have kz := kq.then kd
      replace c0 := kd.cell c0
      replace c1 := kd.cell c1
      replace c2 := kd.cell c2
      replace c3 := kd.cell c3
      replace c4 := kd.cell c4
      replace c5 := kd.cell c5
      clear hs0 kd kq hx hg
      refine wp_region_held_drew (S := fun w2 => Kept w4.drew w2) (by kernel_rfl) (Only.refl _ _) (fun hHeld => ?_)
      generalize w4.drew = wd at *
      have b0 : (0 : Int) ≤ (oC k : Int) := by omega
      have b1 : (oC k : Int) < 29 := by omega
      cases hb : hasB on (oB k)
      · rw [hb, Bool.false_and] at hr
        have hnx : ∀ j, j < k + 1 → rowB S on j = false := fun j hj => by
          by_cases e : j = k
          · rw [e]; exact hr
          · exact hbf j (by omega)
        refine wpAnyH_take (i := 0) (v := ?_) rfl (by kernel_rfl) (by kernel_rfl) (by kernel_rfl) (fun _ _ _ h => h) (Or.inl ⟨by rfl, ?_⟩) hHeld ?_
        rotate_left
        · intro w2 hSw
          go_simp
          all_goals rfl
        try simp only [Act.put, List.getElem_toArray, List.getElem_cons_zero, List.setIfInBounds_toArray, List.set_cons_zero, List.set_cons_succ]
        refine wpAnyH_take (i := 1) (v := ?_) rfl (by kernel_rfl) (by kernel_rfl) (by kernel_rfl) (fun _ _ _ h => h) (Or.inl ⟨by rfl, ?_⟩) hHeld ?_
        rotate_left
        · intro w2 hSw
          go_simp
          all_goals rfl
        try simp only [Act.put, List.getElem_toArray, List.getElem_cons_zero, List.getElem_cons_succ, List.setIfInBounds_toArray, List.set_cons_zero, List.set_cons_succ]
        refine wpAnyH_take (i := 2) (v := .int .u64 (oB k)) rfl (by kernel_rfl) (by kernel_rfl) (by kernel_rfl) (fun _ _ _ h => h) (Or.inl ⟨by rfl, ?_⟩) hHeld ?_
        · intro w2 hSw
          exact exec_load rfl rfl (run_load15b (((show Kept wd w2 from hSw).cell c0)) rfl Tryd.underlying22)
        try simp only [Act.put, List.getElem_toArray, List.getElem_cons_zero, List.getElem_cons_succ, List.setIfInBounds_toArray, List.set_cons_zero, List.set_cons_succ]
        refine wpAnyH_ready (rs := [3]) (by kernel_rfl) (by simp) ?_
        refine AllReadyH.cons rfl (fun K hK => ?_) AllReadyH.nil
        go_simp
        refine (rthas_any hon uB _).mono ?_
        rintro r wn ⟨rfl, hwn⟩
        rw [hwn]
        clear hwn wn
        rw [hb]
        go_simp
        refine hK.out _ _ hHeld (fun hHeld => ?_)
        clear hK K
        try simp only [Act.put, List.getElem_toArray, List.getElem_cons_zero, List.getElem_cons_succ, List.setIfInBounds_toArray, List.set_cons_zero, List.set_cons_succ]
        refine wpAnyH_take (i := 4) (v := ?_) rfl (by kernel_rfl) (by kernel_rfl) (by kernel_rfl) (fun _ _ _ h => h) (Or.inl ⟨by rfl, ?_⟩) hHeld ?_
        rotate_left
        · intro w2 hSw
          go_simp
          all_goals rfl
        try simp only [Act.put, List.getElem_toArray, List.getElem_cons_zero, List.getElem_cons_succ, List.setIfInBounds_toArray, List.set_cons_zero, List.set_cons_succ]
        refine wpAnyH_take (i := 5) rfl (by kernel_rfl) (by kernel_rfl) (by kernel_rfl) (fun _ _ _ h => h) (Or.inr ⟨by rfl, rfl⟩) hHeld ?_
        try simp only [Act.put, List.getElem_toArray, List.getElem_cons_zero, List.getElem_cons_succ, List.setIfInBounds_toArray, List.set_cons_zero, List.set_cons_succ]
        refine wpAnyH_take (i := 6) rfl (by kernel_rfl) (by kernel_rfl) (by kernel_rfl) (fun _ _ _ h => h) (Or.inr ⟨by rfl, rfl⟩) hHeld ?_
        try simp only [Act.put, List.getElem_toArray, List.getElem_cons_zero, List.getElem_cons_succ, List.setIfInBounds_toArray, List.set_cons_zero, List.set_cons_succ]
        refine wpAnyH_take (i := 7) rfl (by kernel_rfl) (by kernel_rfl) (by kernel_rfl) (fun _ _ _ h => h) (Or.inr ⟨by rfl, rfl⟩) hHeld ?_
        try simp only [Act.put, List.getElem_toArray, List.getElem_cons_zero, List.getElem_cons_succ, List.setIfInBounds_toArray, List.set_cons_zero, List.set_cons_succ]
        refine wpAnyH_take (i := 8) rfl (by kernel_rfl) (by kernel_rfl) (by kernel_rfl) (fun _ _ _ h => h) (Or.inr ⟨by rfl, rfl⟩) hHeld ?_
        try simp only [Act.put, List.getElem_toArray, List.getElem_cons_zero, List.getElem_cons_succ, List.setIfInBounds_toArray, List.set_cons_zero, List.set_cons_succ]
        refine wpAnyH_take (i := 9) rfl (by kernel_rfl) (by kernel_rfl) (by kernel_rfl) (fun _ _ _ h => h) (Or.inr ⟨by rfl, rfl⟩) hHeld ?_
        try simp only [Act.put, List.getElem_toArray, List.getElem_cons_zero, List.getElem_cons_succ, List.setIfInBounds_toArray, List.set_cons_zero, List.set_cons_succ]
        refine wpAnyH_take (i := 10) rfl (by kernel_rfl) (by kernel_rfl) (by kernel_rfl) (fun _ _ _ h => h) (Or.inr ⟨by rfl, rfl⟩) hHeld ?_
        try simp only [Act.put, List.getElem_toArray, List.getElem_cons_zero, List.getElem_cons_succ, List.setIfInBounds_toArray, List.set_cons_zero, List.set_cons_succ]
        refine wpAnyH_take (i := 11) rfl (by kernel_rfl) (by kernel_rfl) (by kernel_rfl) (fun _ _ _ h => h) (Or.inr ⟨by rfl, rfl⟩) hHeld ?_
        try simp only [Act.put, List.getElem_toArray, List.getElem_cons_zero, List.getElem_cons_succ, List.setIfInBounds_toArray, List.set_cons_zero, List.set_cons_succ]
        refine wpAnyH_take (i := 12) rfl (by kernel_rfl) (by kernel_rfl) (by kernel_rfl) (fun _ _ _ h => h) (Or.inr ⟨by rfl, rfl⟩) hHeld ?_
        try simp only [Act.put, List.getElem_toArray, List.getElem_cons_zero, List.getElem_cons_succ, List.setIfInBounds_toArray, List.set_cons_zero, List.set_cons_succ]
        refine wpAnyH_take (i := 13) rfl (by kernel_rfl) (by kernel_rfl) (by kernel_rfl) (fun _ _ _ h => h) (Or.inr ⟨by rfl, rfl⟩) hHeld ?_
        try simp only [Act.put, List.getElem_toArray, List.getElem_cons_zero, List.getElem_cons_succ, List.setIfInBounds_toArray, List.set_cons_zero, List.set_cons_succ]
        refine wpAnyH_take (i := 14) rfl (by kernel_rfl) (by kernel_rfl) (by kernel_rfl) (fun _ _ _ h => h) (Or.inr ⟨by rfl, rfl⟩) hHeld ?_
        try simp only [Act.put, List.getElem_toArray, List.getElem_cons_zero, List.getElem_cons_succ, List.setIfInBounds_toArray, List.set_cons_zero, List.set_cons_succ]
        refine wpAnyH_take (i := 15) rfl (by kernel_rfl) (by kernel_rfl) (by kernel_rfl) (fun _ _ _ h => h) (Or.inr ⟨by rfl, rfl⟩) hHeld ?_
        try simp only [Act.put, List.getElem_toArray, List.getElem_cons_zero, List.getElem_cons_succ, List.setIfInBounds_toArray, List.set_cons_zero, List.set_cons_succ]
        refine wpAnyH_take (i := 16) (v := ?_) rfl (by kernel_rfl) (by kernel_rfl) (by kernel_rfl) (fun _ _ _ h => h) (Or.inl ⟨by rfl, ?_⟩) hHeld ?_
        rotate_left
        · intro w2 hSw
          go_simp
          all_goals rfl
        try simp only [Act.put, List.getElem_toArray, List.getElem_cons_zero, List.getElem_cons_succ, List.setIfInBounds_toArray, List.set_cons_zero, List.set_cons_succ]
        refine wpAnyH_take (i := 17) (v := ?_) rfl (by kernel_rfl) (by kernel_rfl) (by kernel_rfl) (fun _ _ _ h => h) (Or.inl ⟨by rfl, ?_⟩) hHeld ?_
        rotate_left
        · intro w2 hSw
          go_simp
          all_goals rfl
        try simp only [Act.put, List.getElem_toArray, List.getElem_cons_zero, List.getElem_cons_succ, List.setIfInBounds_toArray, List.set_cons_zero, List.set_cons_succ]
        refine wpAnyH_take (i := 18) rfl (by kernel_rfl) (by kernel_rfl) (by kernel_rfl) (fun _ _ _ h => h) (Or.inr ⟨by rfl, rfl⟩) hHeld ?_
        try simp only [Act.put, List.getElem_toArray, List.getElem_cons_zero, List.getElem_cons_succ, List.setIfInBounds_toArray, List.set_cons_zero, List.set_cons_succ]
        refine wpAnyH_take (i := 19) rfl (by kernel_rfl) (by kernel_rfl) (by kernel_rfl) (fun _ _ _ h => h) (Or.inr ⟨by rfl, rfl⟩) hHeld ?_
        try simp only [Act.put, List.getElem_toArray, List.getElem_cons_zero, List.getElem_cons_succ, List.setIfInBounds_toArray, List.set_cons_zero, List.set_cons_succ]
        refine wpAnyH_take (i := 20) rfl (by kernel_rfl) (by kernel_rfl) (by kernel_rfl) (fun _ _ _ h => h) (Or.inr ⟨by rfl, rfl⟩) hHeld ?_
        try simp only [Act.put, List.getElem_toArray, List.getElem_cons_zero, List.getElem_cons_succ, List.setIfInBounds_toArray, List.set_cons_zero, List.set_cons_succ]
        refine wpAnyH_take (i := 21) rfl (by kernel_rfl) (by kernel_rfl) (by kernel_rfl) (fun _ _ _ h => h) (Or.inr ⟨by rfl, rfl⟩) hHeld ?_
        try simp only [Act.put, List.getElem_toArray, List.getElem_cons_zero, List.getElem_cons_succ, List.setIfInBounds_toArray, List.set_cons_zero, List.set_cons_succ]
        refine wpAnyH_take (i := 22) rfl (by kernel_rfl) (by kernel_rfl) (by kernel_rfl) (fun _ _ _ h => h) (Or.inr ⟨by rfl, rfl⟩) hHeld ?_
        try simp only [Act.put, List.getElem_toArray, List.getElem_cons_zero, List.getElem_cons_succ, List.setIfInBounds_toArray, List.set_cons_zero, List.set_cons_succ]
        refine wpAnyH_take (i := 23) rfl (by kernel_rfl) (by kernel_rfl) (by kernel_rfl) (fun _ _ _ h => h) (Or.inr ⟨by rfl, rfl⟩) hHeld ?_
        try simp only [Act.put, List.getElem_toArray, List.getElem_cons_zero, List.getElem_cons_succ, List.setIfInBounds_toArray, List.set_cons_zero, List.set_cons_succ]
        refine wpAnyH_take (i := 24) (v := ?_) rfl (by kernel_rfl) (by kernel_rfl) (by kernel_rfl) (fun _ _ _ h => h) (Or.inl ⟨by rfl, ?_⟩) hHeld ?_
        rotate_left
        · intro w2 hSw
          go_simp
          all_goals rfl
        try simp only [Act.put, List.getElem_toArray, List.getElem_cons_zero, List.getElem_cons_succ, List.setIfInBounds_toArray, List.set_cons_zero, List.set_cons_succ]
        refine wpAnyH_done (by kernel_rfl) ?_ _
        go_wp2
        exact ⟨⟨k + 1, by omega, by go_num, hnx, kz.then hHeld⟩, by simp [intOf]; omega⟩
      · rw [hb, Bool.true_and] at hr
        cases hq : (hasB (S.C (oC k)) (oB k) == oS k)
        · rw [hq, Bool.false_and] at hr
          have hnx : ∀ j, j < k + 1 → rowB S on j = false := fun j hj => by
            by_cases e : j = k
            · rw [e]; exact hr
            · exact hbf j (by omega)
          refine wpAnyH_take (i := 0) (v := ?_) rfl (by kernel_rfl) (by kernel_rfl) (by kernel_rfl) (fun _ _ _ h => h) (Or.inl ⟨by rfl, ?_⟩) hHeld ?_
          rotate_left
          · intro w2 hSw
            go_simp
            all_goals rfl
          try simp only [Act.put, List.getElem_toArray, List.getElem_cons_zero, List.setIfInBounds_toArray, List.set_cons_zero, List.set_cons_succ]
          refine wpAnyH_take (i := 1) (v := ?_) rfl (by kernel_rfl) (by kernel_rfl) (by kernel_rfl) (fun _ _ _ h => h) (Or.inl ⟨by rfl, ?_⟩) hHeld ?_
          rotate_left
          · intro w2 hSw
            go_simp
            all_goals rfl
          try simp only [Act.put, List.getElem_toArray, List.getElem_cons_zero, List.getElem_cons_succ, List.setIfInBounds_toArray, List.set_cons_zero, List.set_cons_succ]
          refine wpAnyH_take (i := 2) (v := .int .u64 (oB k)) rfl (by kernel_rfl) (by kernel_rfl) (by kernel_rfl) (fun _ _ _ h => h) (Or.inl ⟨by rfl, ?_⟩) hHeld ?_
          · intro w2 hSw
            exact exec_load rfl rfl (run_load15b (((show Kept wd w2 from hSw).cell c0)) rfl Tryd.underlying22)
          try simp only [Act.put, List.getElem_toArray, List.getElem_cons_zero, List.getElem_cons_succ, List.setIfInBounds_toArray, List.set_cons_zero, List.set_cons_succ]
          refine wpAnyH_ready (rs := [3]) (by kernel_rfl) (by simp) ?_
          refine AllReadyH.cons rfl (fun K hK => ?_) AllReadyH.nil
          go_simp
          refine (rthas_any hon uB _).mono ?_
          rintro r wn ⟨rfl, hwn⟩
          rw [hwn]
          clear hwn wn
          rw [hb]
          go_simp
          refine hK.out _ _ hHeld (fun hHeld => ?_)
          clear hK K
          try simp only [Act.put, List.getElem_toArray, List.getElem_cons_zero, List.getElem_cons_succ, List.setIfInBounds_toArray, List.set_cons_zero, List.set_cons_succ]
          refine wpAnyH_take (i := 4) (v := ?_) rfl (by kernel_rfl) (by kernel_rfl) (by kernel_rfl) (fun _ _ _ h => h) (Or.inl ⟨by rfl, ?_⟩) hHeld ?_
          rotate_left
          · intro w2 hSw
            go_simp
            all_goals rfl
          try simp only [Act.put, List.getElem_toArray, List.getElem_cons_zero, List.getElem_cons_succ, List.setIfInBounds_toArray, List.set_cons_zero, List.set_cons_succ]
          refine wpAnyH_take (i := 5) (v := ?_) rfl (by kernel_rfl) (by kernel_rfl) (by kernel_rfl) (fun _ _ _ h => h) (Or.inl ⟨by rfl, ?_⟩) hHeld ?_
          rotate_left
          · intro w2 hSw
            go_simp
            all_goals rfl
          try simp only [Act.put, List.getElem_toArray, List.getElem_cons_zero, List.getElem_cons_succ, List.setIfInBounds_toArray, List.set_cons_zero, List.set_cons_succ]
          refine wpAnyH_take (i := 6) (v := .int .i64 (oC k : Int)) rfl (by kernel_rfl) (by kernel_rfl) (by kernel_rfl) (fun _ _ _ h => h) (Or.inl ⟨by rfl, ?_⟩) hHeld ?_
          · intro w2 hSw
            exact exec_load rfl rfl (run_load15b (((show Kept wd w2 from hSw).cell c1)) rfl Tryd.underlying3)
          try simp only [Act.put, List.getElem_toArray, List.getElem_cons_zero, List.getElem_cons_succ, List.setIfInBounds_toArray, List.set_cons_zero, List.set_cons_succ]
          refine wpAnyH_take (i := 7) (v := ?_) rfl (by kernel_rfl) (by kernel_rfl) (by kernel_rfl) (fun _ _ _ h => h) (Or.inl ⟨by rfl, ?_⟩) hHeld ?_
          rotate_left
          · intro w2 hSw
            go_simp
            all_goals rfl
          try simp only [Act.put, List.getElem_toArray, List.getElem_cons_zero, List.getElem_cons_succ, List.setIfInBounds_toArray, List.set_cons_zero, List.set_cons_succ]
          refine wpAnyH_take (i := 8) (v := ?_) rfl (by kernel_rfl) (by kernel_rfl) (by kernel_rfl) (fun _ _ _ h => h) (Or.inl ⟨by rfl, ?_⟩) hHeld ?_
          rotate_left
          · intro w2 hSw
            go_simp
            all_goals rfl
          try simp only [Act.put, List.getElem_toArray, List.getElem_cons_zero, List.getElem_cons_succ, List.setIfInBounds_toArray, List.set_cons_zero, List.set_cons_succ]
          refine wpAnyH_take (i := 9) (v := .int .u64 (S.C (oC k))) rfl (by kernel_rfl) (by kernel_rfl) (by kernel_rfl) (fun _ _ _ h => h) (Or.inl ⟨by rfl, ?_⟩) hHeld ?_
          · intro w2 hSw
            exact exec_load rfl rfl (run_load15b ((st_kept15b hs hSw).c lC) rfl Tryd.underlying22)
          try simp only [Act.put, List.getElem_toArray, List.getElem_cons_zero, List.getElem_cons_succ, List.setIfInBounds_toArray, List.set_cons_zero, List.set_cons_succ]
          refine wpAnyH_take (i := 10) (v := ?_) rfl (by kernel_rfl) (by kernel_rfl) (by kernel_rfl) (fun _ _ _ h => h) (Or.inl ⟨by rfl, ?_⟩) hHeld ?_
          rotate_left
          · intro w2 hSw
            go_simp
            all_goals rfl
          try simp only [Act.put, List.getElem_toArray, List.getElem_cons_zero, List.getElem_cons_succ, List.setIfInBounds_toArray, List.set_cons_zero, List.set_cons_succ]
          refine wpAnyH_take (i := 11) (v := .int .u64 (oB k)) rfl (by kernel_rfl) (by kernel_rfl) (by kernel_rfl) (fun _ _ _ h => h) (Or.inl ⟨by rfl, ?_⟩) hHeld ?_
          · intro w2 hSw
            exact exec_load rfl rfl (run_load15b (((show Kept wd w2 from hSw).cell c0)) rfl Tryd.underlying22)
          try simp only [Act.put, List.getElem_toArray, List.getElem_cons_zero, List.getElem_cons_succ, List.setIfInBounds_toArray, List.set_cons_zero, List.set_cons_succ]
          refine wpAnyH_take (i := 13) (v := ?_) rfl (by kernel_rfl) (by kernel_rfl) (by kernel_rfl) (fun _ _ _ h => h) (Or.inl ⟨by rfl, ?_⟩) hHeld ?_
          rotate_left
          · intro w2 hSw
            go_simp
            all_goals rfl
          try simp only [Act.put, List.getElem_toArray, List.getElem_cons_zero, List.getElem_cons_succ, List.setIfInBounds_toArray, List.set_cons_zero, List.set_cons_succ]
          refine wpAnyH_take (i := 14) (v := .bool (oS k)) rfl (by kernel_rfl) (by kernel_rfl) (by kernel_rfl) (fun _ _ _ h => h) (Or.inl ⟨by rfl, ?_⟩) hHeld ?_
          · intro w2 hSw
            exact exec_load rfl rfl (run_load15b (((show Kept wd w2 from hSw).cell c2)) rfl Tryd.underlying4)
          try simp only [Act.put, List.getElem_toArray, List.getElem_cons_zero, List.getElem_cons_succ, List.setIfInBounds_toArray, List.set_cons_zero, List.set_cons_succ]
          refine wpAnyH_ready (rs := [12]) (by kernel_rfl) (by simp) ?_
          refine AllReadyH.cons rfl (fun K hK => ?_) AllReadyH.nil
          go_simp
          refine (rthas_any uC uB _).mono ?_
          rintro r wn ⟨rfl, hwn⟩
          rw [hwn]
          clear hwn wn
          go_simp
          refine hK.out _ _ hHeld (fun hHeld => ?_)
          clear hK K
          try simp only [Act.put, List.getElem_toArray, List.getElem_cons_zero, List.getElem_cons_succ, List.setIfInBounds_toArray, List.set_cons_zero, List.set_cons_succ]
          refine wpAnyH_take (i := 15) (v := ?_) rfl (by kernel_rfl) (by kernel_rfl) (by kernel_rfl) (fun _ _ _ h => h) (Or.inl ⟨by rfl, ?_⟩) hHeld ?_
          rotate_left
          · intro w2 hSw
            go_simp
            all_goals rfl
          try simp only [Act.put, List.getElem_toArray, List.getElem_cons_zero, List.getElem_cons_succ, List.setIfInBounds_toArray, List.set_cons_zero, List.set_cons_succ]
          refine wpAnyH_take (i := 16) (v := ?_) rfl (by kernel_rfl) (by kernel_rfl) (by kernel_rfl) (fun _ _ _ h => h) (Or.inl ⟨by rfl, ?_⟩) hHeld ?_
          rotate_left
          · intro w2 hSw
            go_simp
            all_goals rfl
          try simp only [Act.put, List.getElem_toArray, List.getElem_cons_zero, List.getElem_cons_succ, List.setIfInBounds_toArray, List.set_cons_zero, List.set_cons_succ]
          refine wpAnyH_take (i := 17) (v := ?_) rfl (by kernel_rfl) (by kernel_rfl) (by kernel_rfl) (fun _ _ _ h => h) (Or.inl ⟨by rfl, ?_⟩) hHeld ?_
          rotate_left
          · intro w2 hSw
            go_simp
            all_goals rfl
          try simp only [Act.put, List.getElem_toArray, List.getElem_cons_zero, List.getElem_cons_succ, List.setIfInBounds_toArray, List.set_cons_zero, List.set_cons_succ]
          refine wpAnyH_take (i := 18) rfl (by kernel_rfl) (by kernel_rfl) (by kernel_rfl) (fun _ _ _ h => h) (Or.inr ⟨by rfl, rfl⟩) hHeld ?_
          try simp only [Act.put, List.getElem_toArray, List.getElem_cons_zero, List.getElem_cons_succ, List.setIfInBounds_toArray, List.set_cons_zero, List.set_cons_succ]
          refine wpAnyH_take (i := 19) rfl (by kernel_rfl) (by kernel_rfl) (by kernel_rfl) (fun _ _ _ h => h) (Or.inr ⟨by rfl, rfl⟩) hHeld ?_
          try simp only [Act.put, List.getElem_toArray, List.getElem_cons_zero, List.getElem_cons_succ, List.setIfInBounds_toArray, List.set_cons_zero, List.set_cons_succ]
          refine wpAnyH_take (i := 20) rfl (by kernel_rfl) (by kernel_rfl) (by kernel_rfl) (fun _ _ _ h => h) (Or.inr ⟨by rfl, rfl⟩) hHeld ?_
          try simp only [Act.put, List.getElem_toArray, List.getElem_cons_zero, List.getElem_cons_succ, List.setIfInBounds_toArray, List.set_cons_zero, List.set_cons_succ]
          refine wpAnyH_take (i := 21) rfl (by kernel_rfl) (by kernel_rfl) (by kernel_rfl) (fun _ _ _ h => h) (Or.inr ⟨by rfl, rfl⟩) hHeld ?_
          try simp only [Act.put, List.getElem_toArray, List.getElem_cons_zero, List.getElem_cons_succ, List.setIfInBounds_toArray, List.set_cons_zero, List.set_cons_succ]
          refine wpAnyH_take (i := 22) rfl (by kernel_rfl) (by kernel_rfl) (by kernel_rfl) (fun _ _ _ h => h) (Or.inr ⟨by rfl, rfl⟩) hHeld ?_
          try simp only [Act.put, List.getElem_toArray, List.getElem_cons_zero, List.getElem_cons_succ, List.setIfInBounds_toArray, List.set_cons_zero, List.set_cons_succ]
          refine wpAnyH_take (i := 23) rfl (by kernel_rfl) (by kernel_rfl) (by kernel_rfl) (fun _ _ _ h => h) (Or.inr ⟨by rfl, rfl⟩) hHeld ?_
          try simp only [Act.put, List.getElem_toArray, List.getElem_cons_zero, List.getElem_cons_succ, List.setIfInBounds_toArray, List.set_cons_zero, List.set_cons_succ]
          refine wpAnyH_take (i := 24) (v := ?_) rfl (by kernel_rfl) (by kernel_rfl) (by kernel_rfl) (fun _ _ _ h => h) (Or.inl ⟨by rfl, ?_⟩) hHeld ?_
          rotate_left
          · intro w2 hSw
            go_simp
            all_goals rfl
          try simp only [Act.put, List.getElem_toArray, List.getElem_cons_zero, List.getElem_cons_succ, List.setIfInBounds_toArray, List.set_cons_zero, List.set_cons_succ]
          refine wpAnyH_done (by kernel_rfl) ?_ _
          go_wp2
          exact ⟨⟨k + 1, by omega, by go_num, hnx, kz.then hHeld⟩, by simp [intOf]; omega⟩
        · rw [hq, Bool.true_and] at hr
          cases hm : mayO S k
          · rw [hm] at hr
            have hnx : ∀ j, j < k + 1 → rowB S on j = false := fun j hj => by
              by_cases e : j = k
              · rw [e]; exact hr
              · exact hbf j (by omega)
            refine wpAnyH_take (i := 0) (v := ?_) rfl (by kernel_rfl) (by kernel_rfl) (by kernel_rfl) (fun _ _ _ h => h) (Or.inl ⟨by rfl, ?_⟩) hHeld ?_
            rotate_left
            · intro w2 hSw
              go_simp
              all_goals rfl
            try simp only [Act.put, List.getElem_toArray, List.getElem_cons_zero, List.setIfInBounds_toArray, List.set_cons_zero, List.set_cons_succ]
            refine wpAnyH_take (i := 1) (v := ?_) rfl (by kernel_rfl) (by kernel_rfl) (by kernel_rfl) (fun _ _ _ h => h) (Or.inl ⟨by rfl, ?_⟩) hHeld ?_
            rotate_left
            · intro w2 hSw
              go_simp
              all_goals rfl
            try simp only [Act.put, List.getElem_toArray, List.getElem_cons_zero, List.getElem_cons_succ, List.setIfInBounds_toArray, List.set_cons_zero, List.set_cons_succ]
            refine wpAnyH_take (i := 2) (v := .int .u64 (oB k)) rfl (by kernel_rfl) (by kernel_rfl) (by kernel_rfl) (fun _ _ _ h => h) (Or.inl ⟨by rfl, ?_⟩) hHeld ?_
            · intro w2 hSw
              exact exec_load rfl rfl (run_load15b (((show Kept wd w2 from hSw).cell c0)) rfl Tryd.underlying22)
            try simp only [Act.put, List.getElem_toArray, List.getElem_cons_zero, List.getElem_cons_succ, List.setIfInBounds_toArray, List.set_cons_zero, List.set_cons_succ]
            refine wpAnyH_ready (rs := [3]) (by kernel_rfl) (by simp) ?_
            refine AllReadyH.cons rfl (fun K hK => ?_) AllReadyH.nil
            go_simp
            refine (rthas_any hon uB _).mono ?_
            rintro r wn ⟨rfl, hwn⟩
            rw [hwn]
            clear hwn wn
            rw [hb]
            go_simp
            refine hK.out _ _ hHeld (fun hHeld => ?_)
            clear hK K
            try simp only [Act.put, List.getElem_toArray, List.getElem_cons_zero, List.getElem_cons_succ, List.setIfInBounds_toArray, List.set_cons_zero, List.set_cons_succ]
            refine wpAnyH_take (i := 4) (v := ?_) rfl (by kernel_rfl) (by kernel_rfl) (by kernel_rfl) (fun _ _ _ h => h) (Or.inl ⟨by rfl, ?_⟩) hHeld ?_
            rotate_left
            · intro w2 hSw
              go_simp
              all_goals rfl
            try simp only [Act.put, List.getElem_toArray, List.getElem_cons_zero, List.getElem_cons_succ, List.setIfInBounds_toArray, List.set_cons_zero, List.set_cons_succ]
            refine wpAnyH_take (i := 5) (v := ?_) rfl (by kernel_rfl) (by kernel_rfl) (by kernel_rfl) (fun _ _ _ h => h) (Or.inl ⟨by rfl, ?_⟩) hHeld ?_
            rotate_left
            · intro w2 hSw
              go_simp
              all_goals rfl
            try simp only [Act.put, List.getElem_toArray, List.getElem_cons_zero, List.getElem_cons_succ, List.setIfInBounds_toArray, List.set_cons_zero, List.set_cons_succ]
            refine wpAnyH_take (i := 6) (v := .int .i64 (oC k : Int)) rfl (by kernel_rfl) (by kernel_rfl) (by kernel_rfl) (fun _ _ _ h => h) (Or.inl ⟨by rfl, ?_⟩) hHeld ?_
            · intro w2 hSw
              exact exec_load rfl rfl (run_load15b (((show Kept wd w2 from hSw).cell c1)) rfl Tryd.underlying3)
            try simp only [Act.put, List.getElem_toArray, List.getElem_cons_zero, List.getElem_cons_succ, List.setIfInBounds_toArray, List.set_cons_zero, List.set_cons_succ]
            refine wpAnyH_take (i := 7) (v := ?_) rfl (by kernel_rfl) (by kernel_rfl) (by kernel_rfl) (fun _ _ _ h => h) (Or.inl ⟨by rfl, ?_⟩) hHeld ?_
            rotate_left
            · intro w2 hSw
              go_simp
              all_goals rfl
            try simp only [Act.put, List.getElem_toArray, List.getElem_cons_zero, List.getElem_cons_succ, List.setIfInBounds_toArray, List.set_cons_zero, List.set_cons_succ]
            refine wpAnyH_take (i := 8) (v := ?_) rfl (by kernel_rfl) (by kernel_rfl) (by kernel_rfl) (fun _ _ _ h => h) (Or.inl ⟨by rfl, ?_⟩) hHeld ?_
            rotate_left
            · intro w2 hSw
              go_simp
              all_goals rfl
            try simp only [Act.put, List.getElem_toArray, List.getElem_cons_zero, List.getElem_cons_succ, List.setIfInBounds_toArray, List.set_cons_zero, List.set_cons_succ]
            refine wpAnyH_take (i := 9) (v := .int .u64 (S.C (oC k))) rfl (by kernel_rfl) (by kernel_rfl) (by kernel_rfl) (fun _ _ _ h => h) (Or.inl ⟨by rfl, ?_⟩) hHeld ?_
            · intro w2 hSw
              exact exec_load rfl rfl (run_load15b ((st_kept15b hs hSw).c lC) rfl Tryd.underlying22)
            try simp only [Act.put, List.getElem_toArray, List.getElem_cons_zero, List.getElem_cons_succ, List.setIfInBounds_toArray, List.set_cons_zero, List.set_cons_succ]
            refine wpAnyH_take (i := 10) (v := ?_) rfl (by kernel_rfl) (by kernel_rfl) (by kernel_rfl) (fun _ _ _ h => h) (Or.inl ⟨by rfl, ?_⟩) hHeld ?_
            rotate_left
            · intro w2 hSw
              go_simp
              all_goals rfl
            try simp only [Act.put, List.getElem_toArray, List.getElem_cons_zero, List.getElem_cons_succ, List.setIfInBounds_toArray, List.set_cons_zero, List.set_cons_succ]
            refine wpAnyH_take (i := 11) (v := .int .u64 (oB k)) rfl (by kernel_rfl) (by kernel_rfl) (by kernel_rfl) (fun _ _ _ h => h) (Or.inl ⟨by rfl, ?_⟩) hHeld ?_
            · intro w2 hSw
              exact exec_load rfl rfl (run_load15b (((show Kept wd w2 from hSw).cell c0)) rfl Tryd.underlying22)
            try simp only [Act.put, List.getElem_toArray, List.getElem_cons_zero, List.getElem_cons_succ, List.setIfInBounds_toArray, List.set_cons_zero, List.set_cons_succ]
            refine wpAnyH_take (i := 13) (v := ?_) rfl (by kernel_rfl) (by kernel_rfl) (by kernel_rfl) (fun _ _ _ h => h) (Or.inl ⟨by rfl, ?_⟩) hHeld ?_
            rotate_left
            · intro w2 hSw
              go_simp
              all_goals rfl
            try simp only [Act.put, List.getElem_toArray, List.getElem_cons_zero, List.getElem_cons_succ, List.setIfInBounds_toArray, List.set_cons_zero, List.set_cons_succ]
            refine wpAnyH_take (i := 14) (v := .bool (oS k)) rfl (by kernel_rfl) (by kernel_rfl) (by kernel_rfl) (fun _ _ _ h => h) (Or.inl ⟨by rfl, ?_⟩) hHeld ?_
            · intro w2 hSw
              exact exec_load rfl rfl (run_load15b (((show Kept wd w2 from hSw).cell c2)) rfl Tryd.underlying4)
            try simp only [Act.put, List.getElem_toArray, List.getElem_cons_zero, List.getElem_cons_succ, List.setIfInBounds_toArray, List.set_cons_zero, List.set_cons_succ]
            refine wpAnyH_ready (rs := [12]) (by kernel_rfl) (by simp) ?_
            refine AllReadyH.cons rfl (fun K hK => ?_) AllReadyH.nil
            go_simp
            refine (rthas_any uC uB _).mono ?_
            rintro r wn ⟨rfl, hwn⟩
            rw [hwn]
            clear hwn wn
            go_simp
            refine hK.out _ _ hHeld (fun hHeld => ?_)
            clear hK K
            try simp only [Act.put, List.getElem_toArray, List.getElem_cons_zero, List.getElem_cons_succ, List.setIfInBounds_toArray, List.set_cons_zero, List.set_cons_succ]
            refine wpAnyH_take (i := 15) (v := ?_) rfl (by kernel_rfl) (by kernel_rfl) (by kernel_rfl) (fun _ _ _ h => h) (Or.inl ⟨by rfl, ?_⟩) hHeld ?_
            rotate_left
            · intro w2 hSw
              go_simp
              all_goals rfl
            try simp only [Act.put, List.getElem_toArray, List.getElem_cons_zero, List.getElem_cons_succ, List.setIfInBounds_toArray, List.set_cons_zero, List.set_cons_succ]
            refine wpAnyH_take (i := 16) (v := ?_) rfl (by kernel_rfl) (by kernel_rfl) (by kernel_rfl) (fun _ _ _ h => h) (Or.inl ⟨by rfl, ?_⟩) hHeld ?_
            rotate_left
            · intro w2 hSw
              go_simp
              all_goals rfl
            try simp only [Act.put, List.getElem_toArray, List.getElem_cons_zero, List.getElem_cons_succ, List.setIfInBounds_toArray, List.set_cons_zero, List.set_cons_succ]
            refine wpAnyH_take (i := 17) (v := ?_) rfl (by kernel_rfl) (by kernel_rfl) (by kernel_rfl) (fun _ _ _ h => h) (Or.inl ⟨by rfl, ?_⟩) hHeld ?_
            rotate_left
            · intro w2 hSw
              go_simp
              all_goals rfl
            try simp only [Act.put, List.getElem_toArray, List.getElem_cons_zero, List.getElem_cons_succ, List.setIfInBounds_toArray, List.set_cons_zero, List.set_cons_succ]
            refine wpAnyH_take (i := 18) (v := .agg (rowOf 65 (stF S))) rfl (by kernel_rfl) (by kernel_rfl) (by kernel_rfl) (fun _ _ _ h => h) (Or.inl ⟨by rfl, ?_⟩) hHeld ?_
            · intro w2 hSw
              exact exec_load rfl rfl (load_state (st_kept15b hs hSw))
            try simp only [Act.put, List.getElem_toArray, List.getElem_cons_zero, List.getElem_cons_succ, List.setIfInBounds_toArray, List.set_cons_zero, List.set_cons_succ]
            refine wpAnyH_take (i := 19) (v := ?_) rfl (by kernel_rfl) (by kernel_rfl) (by kernel_rfl) (fun _ _ _ h => h) (Or.inl ⟨by rfl, ?_⟩) hHeld ?_
            rotate_left
            · intro w2 hSw
              go_simp
              all_goals rfl
            try simp only [Act.put, List.getElem_toArray, List.getElem_cons_zero, List.getElem_cons_succ, List.setIfInBounds_toArray, List.set_cons_zero, List.set_cons_succ]
            refine wpAnyH_take (i := 20) (v := .int .i64 (oL k)) rfl (by kernel_rfl) (by kernel_rfl) (by kernel_rfl) (fun _ _ _ h => h) (Or.inl ⟨by rfl, ?_⟩) hHeld ?_
            · intro w2 hSw
              exact exec_load rfl rfl (run_load15b (((show Kept wd w2 from hSw).cell c3)) rfl Tryd.underlying3)
            try simp only [Act.put, List.getElem_toArray, List.getElem_cons_zero, List.getElem_cons_succ, List.setIfInBounds_toArray, List.set_cons_zero, List.set_cons_succ]
            refine wpAnyH_take (i := 21) (v := ?_) rfl (by kernel_rfl) (by kernel_rfl) (by kernel_rfl) (fun _ _ _ h => h) (Or.inl ⟨by rfl, ?_⟩) hHeld ?_
            rotate_left
            · intro w2 hSw
              go_simp
              all_goals rfl
            try simp only [Act.put, List.getElem_toArray, List.getElem_cons_zero, List.getElem_cons_succ, List.setIfInBounds_toArray, List.set_cons_zero, List.set_cons_succ]
            refine wpAnyH_take (i := 22) (v := .bool (oV k)) rfl (by kernel_rfl) (by kernel_rfl) (by kernel_rfl) (fun _ _ _ h => h) (Or.inl ⟨by rfl, ?_⟩) hHeld ?_
            · intro w2 hSw
              exact exec_load rfl rfl (run_load15b (((show Kept wd w2 from hSw).cell c4)) rfl Tryd.underlying4)
            try simp only [Act.put, List.getElem_toArray, List.getElem_cons_zero, List.getElem_cons_succ, List.setIfInBounds_toArray, List.set_cons_zero, List.set_cons_succ]
            refine wpAnyH_ready (rs := [23]) (by kernel_rfl) (by simp) ?_
            refine AllReadyH.cons rfl (fun K hK => ?_) AllReadyH.nil
            go_simp
            refine (rtmay_row hS hL hk8).mono ?_
            rintro r wn ⟨rfl, kn⟩
            rw [hm]
            go_simp
            refine hK.out _ _ (hHeld.then kn) (fun hHeld => ?_)
            clear hK K
            try simp only [Act.put, List.getElem_toArray, List.getElem_cons_zero, List.getElem_cons_succ, List.setIfInBounds_toArray, List.set_cons_zero, List.set_cons_succ]
            refine wpAnyH_take (i := 24) (v := ?_) rfl (by kernel_rfl) (by kernel_rfl) (by kernel_rfl) (fun _ _ _ h => h) (Or.inl ⟨by rfl, ?_⟩) hHeld ?_
            rotate_left
            · intro w2 hSw
              go_simp
              all_goals rfl
            try simp only [Act.put, List.getElem_toArray, List.getElem_cons_zero, List.getElem_cons_succ, List.setIfInBounds_toArray, List.set_cons_zero, List.set_cons_succ]
            refine wpAnyH_done (by kernel_rfl) ?_ _
            go_wp2
            exact ⟨⟨k + 1, by omega, by go_num, hnx, kz.then hHeld⟩, by simp [intOf]; omega⟩
          · rw [hm] at hr
            refine wpAnyH_take (i := 0) (v := ?_) rfl (by kernel_rfl) (by kernel_rfl) (by kernel_rfl) (fun _ _ _ h => h) (Or.inl ⟨by rfl, ?_⟩) hHeld ?_
            rotate_left
            · intro w2 hSw
              go_simp
              all_goals rfl
            try simp only [Act.put, List.getElem_toArray, List.getElem_cons_zero, List.setIfInBounds_toArray, List.set_cons_zero, List.set_cons_succ]
            refine wpAnyH_take (i := 1) (v := ?_) rfl (by kernel_rfl) (by kernel_rfl) (by kernel_rfl) (fun _ _ _ h => h) (Or.inl ⟨by rfl, ?_⟩) hHeld ?_
            rotate_left
            · intro w2 hSw
              go_simp
              all_goals rfl
            try simp only [Act.put, List.getElem_toArray, List.getElem_cons_zero, List.getElem_cons_succ, List.setIfInBounds_toArray, List.set_cons_zero, List.set_cons_succ]
            refine wpAnyH_take (i := 2) (v := .int .u64 (oB k)) rfl (by kernel_rfl) (by kernel_rfl) (by kernel_rfl) (fun _ _ _ h => h) (Or.inl ⟨by rfl, ?_⟩) hHeld ?_
            · intro w2 hSw
              exact exec_load rfl rfl (run_load15b (((show Kept wd w2 from hSw).cell c0)) rfl Tryd.underlying22)
            try simp only [Act.put, List.getElem_toArray, List.getElem_cons_zero, List.getElem_cons_succ, List.setIfInBounds_toArray, List.set_cons_zero, List.set_cons_succ]
            refine wpAnyH_ready (rs := [3]) (by kernel_rfl) (by simp) ?_
            refine AllReadyH.cons rfl (fun K hK => ?_) AllReadyH.nil
            go_simp
            refine (rthas_any hon uB _).mono ?_
            rintro r wn ⟨rfl, hwn⟩
            rw [hwn]
            clear hwn wn
            rw [hb]
            go_simp
            refine hK.out _ _ hHeld (fun hHeld => ?_)
            clear hK K
            try simp only [Act.put, List.getElem_toArray, List.getElem_cons_zero, List.getElem_cons_succ, List.setIfInBounds_toArray, List.set_cons_zero, List.set_cons_succ]
            refine wpAnyH_take (i := 4) (v := ?_) rfl (by kernel_rfl) (by kernel_rfl) (by kernel_rfl) (fun _ _ _ h => h) (Or.inl ⟨by rfl, ?_⟩) hHeld ?_
            rotate_left
            · intro w2 hSw
              go_simp
              all_goals rfl
            try simp only [Act.put, List.getElem_toArray, List.getElem_cons_zero, List.getElem_cons_succ, List.setIfInBounds_toArray, List.set_cons_zero, List.set_cons_succ]
            refine wpAnyH_take (i := 5) (v := ?_) rfl (by kernel_rfl) (by kernel_rfl) (by kernel_rfl) (fun _ _ _ h => h) (Or.inl ⟨by rfl, ?_⟩) hHeld ?_
            rotate_left
            · intro w2 hSw
              go_simp
              all_goals rfl
            try simp only [Act.put, List.getElem_toArray, List.getElem_cons_zero, List.getElem_cons_succ, List.setIfInBounds_toArray, List.set_cons_zero, List.set_cons_succ]
            refine wpAnyH_take (i := 6) (v := .int .i64 (oC k : Int)) rfl (by kernel_rfl) (by kernel_rfl) (by kernel_rfl) (fun _ _ _ h => h) (Or.inl ⟨by rfl, ?_⟩) hHeld ?_
            · intro w2 hSw
              exact exec_load rfl rfl (run_load15b (((show Kept wd w2 from hSw).cell c1)) rfl Tryd.underlying3)
            try simp only [Act.put, List.getElem_toArray, List.getElem_cons_zero, List.getElem_cons_succ, List.setIfInBounds_toArray, List.set_cons_zero, List.set_cons_succ]
            refine wpAnyH_take (i := 7) (v := ?_) rfl (by kernel_rfl) (by kernel_rfl) (by kernel_rfl) (fun _ _ _ h => h) (Or.inl ⟨by rfl, ?_⟩) hHeld ?_
            rotate_left
            · intro w2 hSw
              go_simp
              all_goals rfl
            try simp only [Act.put, List.getElem_toArray, List.getElem_cons_zero, List.getElem_cons_succ, List.setIfInBounds_toArray, List.set_cons_zero, List.set_cons_succ]
            refine wpAnyH_take (i := 8) (v := ?_) rfl (by kernel_rfl) (by kernel_rfl) (by kernel_rfl) (fun _ _ _ h => h) (Or.inl ⟨by rfl, ?_⟩) hHeld ?_
            rotate_left
            · intro w2 hSw
              go_simp
              all_goals rfl
            try simp only [Act.put, List.getElem_toArray, List.getElem_cons_zero, List.getElem_cons_succ, List.setIfInBounds_toArray, List.set_cons_zero, List.set_cons_succ]
            refine wpAnyH_take (i := 9) (v := .int .u64 (S.C (oC k))) rfl (by kernel_rfl) (by kernel_rfl) (by kernel_rfl) (fun _ _ _ h => h) (Or.inl ⟨by rfl, ?_⟩) hHeld ?_
            · intro w2 hSw
              exact exec_load rfl rfl (run_load15b ((st_kept15b hs hSw).c lC) rfl Tryd.underlying22)
            try simp only [Act.put, List.getElem_toArray, List.getElem_cons_zero, List.getElem_cons_succ, List.setIfInBounds_toArray, List.set_cons_zero, List.set_cons_succ]
            refine wpAnyH_take (i := 10) (v := ?_) rfl (by kernel_rfl) (by kernel_rfl) (by kernel_rfl) (fun _ _ _ h => h) (Or.inl ⟨by rfl, ?_⟩) hHeld ?_
            rotate_left
            · intro w2 hSw
              go_simp
              all_goals rfl
            try simp only [Act.put, List.getElem_toArray, List.getElem_cons_zero, List.getElem_cons_succ, List.setIfInBounds_toArray, List.set_cons_zero, List.set_cons_succ]
            refine wpAnyH_take (i := 11) (v := .int .u64 (oB k)) rfl (by kernel_rfl) (by kernel_rfl) (by kernel_rfl) (fun _ _ _ h => h) (Or.inl ⟨by rfl, ?_⟩) hHeld ?_
            · intro w2 hSw
              exact exec_load rfl rfl (run_load15b (((show Kept wd w2 from hSw).cell c0)) rfl Tryd.underlying22)
            try simp only [Act.put, List.getElem_toArray, List.getElem_cons_zero, List.getElem_cons_succ, List.setIfInBounds_toArray, List.set_cons_zero, List.set_cons_succ]
            refine wpAnyH_take (i := 13) (v := ?_) rfl (by kernel_rfl) (by kernel_rfl) (by kernel_rfl) (fun _ _ _ h => h) (Or.inl ⟨by rfl, ?_⟩) hHeld ?_
            rotate_left
            · intro w2 hSw
              go_simp
              all_goals rfl
            try simp only [Act.put, List.getElem_toArray, List.getElem_cons_zero, List.getElem_cons_succ, List.setIfInBounds_toArray, List.set_cons_zero, List.set_cons_succ]
            refine wpAnyH_take (i := 14) (v := .bool (oS k)) rfl (by kernel_rfl) (by kernel_rfl) (by kernel_rfl) (fun _ _ _ h => h) (Or.inl ⟨by rfl, ?_⟩) hHeld ?_
            · intro w2 hSw
              exact exec_load rfl rfl (run_load15b (((show Kept wd w2 from hSw).cell c2)) rfl Tryd.underlying4)
            try simp only [Act.put, List.getElem_toArray, List.getElem_cons_zero, List.getElem_cons_succ, List.setIfInBounds_toArray, List.set_cons_zero, List.set_cons_succ]
            refine wpAnyH_ready (rs := [12]) (by kernel_rfl) (by simp) ?_
            refine AllReadyH.cons rfl (fun K hK => ?_) AllReadyH.nil
            go_simp
            refine (rthas_any uC uB _).mono ?_
            rintro r wn ⟨rfl, hwn⟩
            rw [hwn]
            clear hwn wn
            go_simp
            refine hK.out _ _ hHeld (fun hHeld => ?_)
            clear hK K
            try simp only [Act.put, List.getElem_toArray, List.getElem_cons_zero, List.getElem_cons_succ, List.setIfInBounds_toArray, List.set_cons_zero, List.set_cons_succ]
            refine wpAnyH_take (i := 15) (v := ?_) rfl (by kernel_rfl) (by kernel_rfl) (by kernel_rfl) (fun _ _ _ h => h) (Or.inl ⟨by rfl, ?_⟩) hHeld ?_
            rotate_left
            · intro w2 hSw
              go_simp
              all_goals rfl
            try simp only [Act.put, List.getElem_toArray, List.getElem_cons_zero, List.getElem_cons_succ, List.setIfInBounds_toArray, List.set_cons_zero, List.set_cons_succ]
            refine wpAnyH_take (i := 16) (v := ?_) rfl (by kernel_rfl) (by kernel_rfl) (by kernel_rfl) (fun _ _ _ h => h) (Or.inl ⟨by rfl, ?_⟩) hHeld ?_
            rotate_left
            · intro w2 hSw
              go_simp
              all_goals rfl
            try simp only [Act.put, List.getElem_toArray, List.getElem_cons_zero, List.getElem_cons_succ, List.setIfInBounds_toArray, List.set_cons_zero, List.set_cons_succ]
            refine wpAnyH_take (i := 17) (v := ?_) rfl (by kernel_rfl) (by kernel_rfl) (by kernel_rfl) (fun _ _ _ h => h) (Or.inl ⟨by rfl, ?_⟩) hHeld ?_
            rotate_left
            · intro w2 hSw
              go_simp
              all_goals rfl
            try simp only [Act.put, List.getElem_toArray, List.getElem_cons_zero, List.getElem_cons_succ, List.setIfInBounds_toArray, List.set_cons_zero, List.set_cons_succ]
            refine wpAnyH_take (i := 18) (v := .agg (rowOf 65 (stF S))) rfl (by kernel_rfl) (by kernel_rfl) (by kernel_rfl) (fun _ _ _ h => h) (Or.inl ⟨by rfl, ?_⟩) hHeld ?_
            · intro w2 hSw
              exact exec_load rfl rfl (load_state (st_kept15b hs hSw))
            try simp only [Act.put, List.getElem_toArray, List.getElem_cons_zero, List.getElem_cons_succ, List.setIfInBounds_toArray, List.set_cons_zero, List.set_cons_succ]
            refine wpAnyH_take (i := 19) (v := ?_) rfl (by kernel_rfl) (by kernel_rfl) (by kernel_rfl) (fun _ _ _ h => h) (Or.inl ⟨by rfl, ?_⟩) hHeld ?_
            rotate_left
            · intro w2 hSw
              go_simp
              all_goals rfl
            try simp only [Act.put, List.getElem_toArray, List.getElem_cons_zero, List.getElem_cons_succ, List.setIfInBounds_toArray, List.set_cons_zero, List.set_cons_succ]
            refine wpAnyH_take (i := 20) (v := .int .i64 (oL k)) rfl (by kernel_rfl) (by kernel_rfl) (by kernel_rfl) (fun _ _ _ h => h) (Or.inl ⟨by rfl, ?_⟩) hHeld ?_
            · intro w2 hSw
              exact exec_load rfl rfl (run_load15b (((show Kept wd w2 from hSw).cell c3)) rfl Tryd.underlying3)
            try simp only [Act.put, List.getElem_toArray, List.getElem_cons_zero, List.getElem_cons_succ, List.setIfInBounds_toArray, List.set_cons_zero, List.set_cons_succ]
            refine wpAnyH_take (i := 21) (v := ?_) rfl (by kernel_rfl) (by kernel_rfl) (by kernel_rfl) (fun _ _ _ h => h) (Or.inl ⟨by rfl, ?_⟩) hHeld ?_
            rotate_left
            · intro w2 hSw
              go_simp
              all_goals rfl
            try simp only [Act.put, List.getElem_toArray, List.getElem_cons_zero, List.getElem_cons_succ, List.setIfInBounds_toArray, List.set_cons_zero, List.set_cons_succ]
            refine wpAnyH_take (i := 22) (v := .bool (oV k)) rfl (by kernel_rfl) (by kernel_rfl) (by kernel_rfl) (fun _ _ _ h => h) (Or.inl ⟨by rfl, ?_⟩) hHeld ?_
            · intro w2 hSw
              exact exec_load rfl rfl (run_load15b (((show Kept wd w2 from hSw).cell c4)) rfl Tryd.underlying4)
            try simp only [Act.put, List.getElem_toArray, List.getElem_cons_zero, List.getElem_cons_succ, List.setIfInBounds_toArray, List.set_cons_zero, List.set_cons_succ]
            refine wpAnyH_ready (rs := [23]) (by kernel_rfl) (by simp) ?_
            refine AllReadyH.cons rfl (fun K hK => ?_) AllReadyH.nil
            go_simp
            refine (rtmay_row hS hL hk8).mono ?_
            rintro r wn ⟨rfl, kn⟩
            rw [hm]
            go_simp
            refine hK.out _ _ (hHeld.then kn) (fun hHeld => ?_)
            clear hK K
            try simp only [Act.put, List.getElem_toArray, List.getElem_cons_zero, List.getElem_cons_succ, List.setIfInBounds_toArray, List.set_cons_zero, List.set_cons_succ]
            refine wpAnyH_take (i := 24) (v := ?_) rfl (by kernel_rfl) (by kernel_rfl) (by kernel_rfl) (fun _ _ _ h => h) (Or.inl ⟨by rfl, ?_⟩) hHeld ?_
            rotate_left
            · intro w2 hSw
              go_simp
              all_goals rfl
            try simp only [Act.put, List.getElem_toArray, List.getElem_cons_zero, List.getElem_cons_succ, List.setIfInBounds_toArray, List.set_cons_zero, List.set_cons_succ]
            refine wpAnyH_done (by kernel_rfl) ?_ _
            have ke : Kept wn wn.drew := (Only.refl _ wn).drew
            have e5 := ke.cell (hHeld.cell c5)
            have e3 := ke.cell (hHeld.cell c3)
            have e4 := ke.cell (hHeld.cell c4)
            have hM := hfirst k hk8 hr hbf
            have kf := (kk.then (kz.then hHeld)).then ke
            clear hHeld
            go_wp2
            refine wp_region_held_drew (S := fun w2 => Kept wn.drew w2) (by kernel_rfl) (Only.refl _ _) (fun hHeld => ?_)
            generalize wn.drew = we at *
            refine wpAnyH_take (i := 0) (v := ?_) rfl (by kernel_rfl) (by kernel_rfl) (by kernel_rfl) (fun _ _ _ h => h) (Or.inl ⟨by rfl, ?_⟩) hHeld ?_
            rotate_left
            · intro w2 hSw
              go_simp
              all_goals rfl
            try simp only [Act.put, List.getElem_toArray, List.getElem_cons_zero, List.setIfInBounds_toArray, List.set_cons_zero, List.set_cons_succ]
            refine wpAnyH_take (i := 1) (v := .int .u64 (oN k)) rfl (by kernel_rfl) (by kernel_rfl) (by kernel_rfl) (fun _ _ _ h => h) (Or.inl ⟨by rfl, ?_⟩) hHeld ?_
            · intro w2 hSw
              exact exec_load rfl rfl (run_load15b ((show Kept we w2 from hSw).cell e5) rfl Tryd.underlying22)
            try simp only [Act.put, List.getElem_toArray, List.getElem_cons_zero, List.getElem_cons_succ, List.setIfInBounds_toArray, List.set_cons_zero, List.set_cons_succ]
            refine wpAnyH_take (i := 2) (v := ?_) rfl (by kernel_rfl) (by kernel_rfl) (by kernel_rfl) (fun _ _ _ h => h) (Or.inl ⟨by rfl, ?_⟩) hHeld ?_
            rotate_left
            · intro w2 hSw
              go_simp
              all_goals rfl
            try simp only [Act.put, List.getElem_toArray, List.getElem_cons_zero, List.getElem_cons_succ, List.setIfInBounds_toArray, List.set_cons_zero, List.set_cons_succ]
            refine wpAnyH_take (i := 3) (v := ?_) rfl (by kernel_rfl) (by kernel_rfl) (by kernel_rfl) (fun _ _ _ h => h) (Or.inl ⟨by rfl, ?_⟩) hHeld ?_
            rotate_left
            · intro w2 hSw
              go_simp
              all_goals rfl
            try simp only [Act.put, List.getElem_toArray, List.getElem_cons_zero, List.getElem_cons_succ, List.setIfInBounds_toArray, List.set_cons_zero, List.set_cons_succ]
            refine wpAnyH_take (i := 4) (v := .int .i64 (oL k)) rfl (by kernel_rfl) (by kernel_rfl) (by kernel_rfl) (fun _ _ _ h => h) (Or.inl ⟨by rfl, ?_⟩) hHeld ?_
            · intro w2 hSw
              exact exec_load rfl rfl (run_load15b ((show Kept we w2 from hSw).cell e3) rfl Tryd.underlying3)
            try simp only [Act.put, List.getElem_toArray, List.getElem_cons_zero, List.getElem_cons_succ, List.setIfInBounds_toArray, List.set_cons_zero, List.set_cons_succ]
            refine wpAnyH_take (i := 5) (v := ?_) rfl (by kernel_rfl) (by kernel_rfl) (by kernel_rfl) (fun _ _ _ h => h) (Or.inl ⟨by rfl, ?_⟩) hHeld ?_
            rotate_left
            · intro w2 hSw
              go_simp
              all_goals rfl
            try simp only [Act.put, List.getElem_toArray, List.getElem_cons_zero, List.getElem_cons_succ, List.setIfInBounds_toArray, List.set_cons_zero, List.set_cons_succ]
            refine wpAnyH_take (i := 6) (v := .bool (oV k)) rfl (by kernel_rfl) (by kernel_rfl) (by kernel_rfl) (fun _ _ _ h => h) (Or.inl ⟨by rfl, ?_⟩) hHeld ?_
            · intro w2 hSw
              exact exec_load rfl rfl (run_load15b ((show Kept we w2 from hSw).cell e4) rfl Tryd.underlying4)
            try simp only [Act.put, List.getElem_toArray, List.getElem_cons_zero, List.getElem_cons_succ, List.setIfInBounds_toArray, List.set_cons_zero, List.set_cons_succ]
            refine wpAnyH_take (i := 7) (v := ?_) rfl (by kernel_rfl) (by kernel_rfl) (by kernel_rfl) (fun _ _ _ h => h) (Or.inl ⟨by rfl, ?_⟩) hHeld ?_
            rotate_left
            · intro w2 hSw
              go_simp
              all_goals rfl
            try simp only [Act.put, List.getElem_toArray, List.getElem_cons_zero, List.getElem_cons_succ, List.setIfInBounds_toArray, List.set_cons_zero, List.set_cons_succ]
            refine wpAnyH_take (i := 8) (v := ?_) rfl (by kernel_rfl) (by kernel_rfl) (by kernel_rfl) (fun _ _ _ h => h) (Or.inl ⟨by rfl, ?_⟩) hHeld ?_
            rotate_left
            · intro w2 hSw
              go_simp
              all_goals rfl
            try simp only [Act.put, List.getElem_toArray, List.getElem_cons_zero, List.getElem_cons_succ, List.setIfInBounds_toArray, List.set_cons_zero, List.set_cons_succ]
            refine wpAnyH_take (i := 9) (v := ?_) rfl (by kernel_rfl) (by kernel_rfl) (by kernel_rfl) (fun _ _ _ h => h) (Or.inl ⟨by rfl, ?_⟩) hHeld ?_
            rotate_left
            · intro w2 hSw
              go_simp
              all_goals rfl
            try simp only [Act.put, List.getElem_toArray, List.getElem_cons_zero, List.getElem_cons_succ, List.setIfInBounds_toArray, List.set_cons_zero, List.set_cons_succ]
            refine wpAnyH_take (i := 10) (v := ?_) rfl (by kernel_rfl) (by kernel_rfl) (by kernel_rfl) (fun _ _ _ h => h) (Or.inl ⟨by rfl, ?_⟩) hHeld ?_
            rotate_left
            · intro w2 hSw
              go_simp
              all_goals rfl
            try simp only [Act.put, List.getElem_toArray, List.getElem_cons_zero, List.getElem_cons_succ, List.setIfInBounds_toArray, List.set_cons_zero, List.set_cons_succ]
            refine wpAnyH_done (by kernel_rfl) ?_ _
            go_wp2
            try simp only [Exit.inBlock, Exit.then]
            refine bodyPost_ret (results_four15 rfl _ _ _) rfl ⟨by rw [hM]; rfl, kf⟩
    · obtain rfl : k = 8 := by omega
      have hM := hnone hbf
      go_wp2
      refine bodyPost_ret (results_four15 rfl _ _ _) rfl ⟨by rw [hM]; rfl, kk.then hg⟩
theorem rtint_any (hT : Tab15 w) (hS : S.Ok) (hL : LvO S) (t l : Bool) :
    Calls Tryd.prog 11 #[.agg (rowOf 65 (stF S)), .bool t, .bool l] w fun e w' => e = .returned (intV (intM S t l)) ∧ Kept w w' := rtint_any0 hT hS hL t l
theorem rtexc_any (_ : Tab15 w) (hS : S.Ok) {c : Int} (hc : U c) :
    Calls Tryd.prog 9 #[.agg (rowOf 65 (stF S)), .int .u64 c] w fun e w' => e = .returned (.tuple #[.int .i64 (excL S c), .bool (excV S c)]) ∧ Kept w w' := rtexc_any0 hS hc
theorem rtena_any (_ : Tab15 w) (_ : S.Ok) (t l : Bool) :
    Calls Tryd.prog 13 #[.agg (rowOf 65 (stF S)), .bool t, .bool l] w fun e w' => e = .returned (.int .u64 (enI S t l)) ∧ Kept w w' := rtena_any0 t l
end
end Go.Proofs.YtkijdogckfpdpaaDoor
