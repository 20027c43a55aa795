/-
  What package two's small calls answer (table, withFirst, Ask, frameOf, placeIn, hostLets, second, Guest), in the document's words: walked whole, for every argument.
-/
import Derived.Test.YtpplclenokfpeaaDoorTwoAl
import Derived.Test.YtpplclenokfpeaaDoorTWalk
import Derived.Test.YtpplclenokfpeaaDoorMemFace
import Derived.Laws.ResultCell
import Derived.Deep.WholeRow
import Derived.OwnWalk
namespace Go.Proofs.YtpplclenokfpeaaDoor
open Go.RowKit
/-- The landed package's tables: that of rights alone. -/
structure Tab12 (w : World) : Prop where
  r : TabR w
theorem Tab12.kept {w w' : World} (h : Tab12 w) (k : Kept w w') : Tab12 w' := ⟨h.r.kept k⟩
theorem ask_sz12 (a : AskM) : (Tryd.prog.info? 46).map (·.size) = some (askA a).size := by
  rw [ask_len]
  kernel_rfl
theorem ask_on12 (a : AskM) : (askA a).all (·.oneCell') = true := by simp [askA, Value.oneCell']
theorem gb_tb {x : Int} (hx : U x) (i : Nat) : gb x i = tb x i := ofInt_tb hx i
theorem bitS_gb {x : Int} (hx : U x) (k : Nat) : bitS x k = gb x k := by
  unfold bitS
  rw [u_one, gb_tb (U_shr hx k), tb_shr hx, Nat.zero_add, ← gb_tb hx]
theorem gb_top {x : Int} (hx : U x) : gb x 63 = (x / 2 ^ 63 == 1) := by
  obtain ⟨X, rfl, hX⟩ := hx.nat
  have hU : U (X : Int) := by unfold U; omega
  rw [gb_tb hU]
  unfold tb
  rw [Int.toNat_natCast, Nat.testBit_eq_decide_div_mod_eq]
  by_cases h : X / 2 ^ 63 % 2 = 1
  · rw [decide_eq_true h]
    exact (beq_iff_eq.2 (show (X : Int) / 2 ^ 63 = 1 by omega)).symm
  · rw [decide_eq_false h]
    exact (beq_eq_false_iff_ne.2 (show (X : Int) / 2 ^ 63 ≠ 1 by omega)).symm
theorem top_no {x : Int} (hx : U x) : (bits .and .u64 x 9223372036854775808 == 0) = !(x / 2 ^ 63 == 1) := by
  rw [← gb_top hx, bits_and, show (9223372036854775808 : Int) = ((2 ^ 63 : Nat) : Int) from rfl, one_bit]
  cases gb x 63 <;> decide
section
variable {w : World}
/-- Whether a table is on, its mark and its root. -/
def onI (c : Int) : Bool := c / 2 ^ 63 == 1
theorem table_c {c : Int} (hc : U c) :
    Calls Tryd.prog 41 #[.int .u64 c] w fun e w' => e = .returned (.tuple #[.bool (onI c), .int .i64 (bif onI c then c / 65536 % 256 else 0), .int .i64 (bif onI c then c % 256 else 0)]) ∧ w' = w := by
  have ht := top_no hc
  have h0 := hc.1
  have ea : bits .and .u64 (c / 65536) 255 = c / 65536 % 256 := u_low (c / 65536) 8 (by omega) 255 rfl
  have eb : bits .and .u64 c 255 = c % 256 := u_low c 8 (by omega) 255 rfl
  have l0 : 0 ≤ c / 65536 % 256 := by omega
  have l1 : c / 65536 % 256 < 256 := by omega
  have l2 : 0 ≤ c % 256 := by omega
  have l3 : c % 256 < 256 := by omega
  unfold onI
  cases hf : (c / 2 ^ 63 == 1)
  all_goals
    rw [hf] at ht
    clear hf
    simp only [Bool.not_true, Bool.not_false] at ht
    go_enter Tryd.func41, Tryd.ntmps41
    go_wp2
    refine bodyPost_ret (results_tmp3 rfl _ _ _) rfl ⟨rfl, rfl⟩
/-- An asking with a register's first table. -/
def wfA (c : Int) (a : AskM) : AskM := ⟨onI c, a.second, a.sum, a.mxr, bif onI c then c / 65536 % 256 else 0, a.vmid, bif onI c then c % 256 else 0, a.host⟩
theorem ask_box (w : World) (a : AskM) (c : Array Value) : Blk ((w.alloc (.cells (askA a) 46)).alloc (.cells c 46)) w.heap.size 46 (askA a) := ((Only.refl (fun _ => False) (w.alloc (.cells (askA a) 46))).alloc _).block (alloc_last w (askA a) 46) id
theorem blk_set {w : World} {b : Nat} {T : TypeId} {cs : Array Value} (h : Blk w b T cs) (i : Nat) (v : Value) : Blk (w.setCell ⟨b, i, none⟩ v) b T (cs.setIfInBounds i v) := by
  show (w.heap.modify b _)[b]? = _
  rw [Array.getElem?_modify, if_pos rfl, h]
  rfl
theorem blk_loose {w : World} {b : Nat} {T : TypeId} {cs : Array Value} (h : Blk w b T cs) (i : Nat) : w.frozen? ⟨b, i, none⟩ = false := by
  simp [World.frozen?, h]
theorem wf_c {c : Int} (hc : U c) (a : AskM) :
    Calls Tryd.prog 40 #[.int .u64 c, .agg (askA a)] w fun e w' => e = .returned (.agg (askA (wfA c a))) ∧ Kept w w' := by
  have b0 := ask_box w a (askA ⟨false, false, false, false, 0, 0, 0, 0⟩)
  have r0 := alloc_last (w.alloc (.cells (askA a) 46)) (askA ⟨false, false, false, false, 0, 0, 0, 0⟩) 46
  have n1 : (w.alloc (.cells (askA a) 46)).heap.size = w.heap.size + 1 := Go.Deep.nblk_alloc _ _
  rw [n1] at r0
  have kk : Kept w ((w.alloc (.cells (askA a) 46)).alloc (.cells (askA ⟨false, false, false, false, 0, 0, 0, 0⟩) 46)) := ((Only.refl _ w).alloc _).alloc _
  clear n1
  go_enter Tryd.func40, Tryd.ntmps40
  go_upto_region 1 with (refine wpList_alloc_is rfl 46 rfl (askA ⟨false, false, false, false, 0, 0, 0, 0⟩) ask_zero' ?_)
  generalize ((w.alloc (.cells (askA a) 46)).alloc (.cells (askA ⟨false, false, false, false, 0, 0, 0, 0⟩) 46)) = w1 at b0 r0 kk ⊢
  have c0 : _ = some (Value.bool a.first) := Blk.cell b0 0
  have c4 : _ = some (Value.int .i64 a.asid) := Blk.cell b0 4
  have c6 : _ = some (Value.int .i64 a.root) := Blk.cell b0 6
  have f0 := blk_loose b0 0
  have f4 := blk_loose b0 4
  have f6 := blk_loose b0 6
  have b2 : Blk (((w1.setCell ⟨w.heap.size, 0, none⟩ (.bool (onI c))).setCell ⟨w.heap.size, 4, none⟩ (.int .i64 (bif onI c then c / 65536 % 256 else 0))).setCell ⟨w.heap.size, 6, none⟩ (.int .i64 (bif onI c then c % 256 else 0))) w.heap.size 46 (askA (wfA c a)) := blk_set (blk_set (blk_set b0 0 _) 4 _) 6 _
  have o2 : Only (fun i => i = w.heap.size) w1 (((w1.setCell ⟨w.heap.size, 0, none⟩ (.bool (onI c))).setCell ⟨w.heap.size, 4, none⟩ (.int .i64 (bif onI c then c / 65536 % 256 else 0))).setCell ⟨w.heap.size, 6, none⟩ (.int .i64 (bif onI c then c % 256 else 0))) := (((Only.refl (fun i => i = w.heap.size) w1).setCell rfl _).setCell rfl _).setCell rfl _
  go_upto_region 2 with (go_at_call 41; refine (table_c hc).mono ?_; rintro r wy ⟨rfl, hwy⟩; rw [hwy]; clear hwy wy)
  have r2 := Blk.past r0 o2 (by omega)
  have k2 := kk.new o2 fun i hi => by omega
  clear c0 c4 c6 f0 f4 f6 b0 r0 kk o2
  generalize (((w1.setCell ⟨w.heap.size, 0, none⟩ (.bool (onI c))).setCell ⟨w.heap.size, 4, none⟩ (.int .i64 (bif onI c then c / 65536 % 256 else 0))).setCell ⟨w.heap.size, 6, none⟩ (.int .i64 (bif onI c then c % 256 else 0))) = w2 at b2 r2 k2 ⊢
  go_wp2_with (first | (refine wpList_load_blk (by rfl) 46 _ rfl w.heap.size rfl b2 _ Tryd.underlying46 rfl (ask_sz12 _) ?_) | (refine wpList_store_go rfl 46 _ _ rfl (w.heap.size + 1) (askA (wfA c a)) rfl rfl r2 (ask_sz12 _) ((ask_len _).trans (ask_len _).symm) (ask_on12 _) ?_; intro w3 o3 a3))
  refine bodyPost_ret (results_cell_row rfl _ _ (w.heap.size + 1) 46 _ (0, 0) _ rfl a3 Tryd.underlying46 rfl (ask_sz12 _)) rfl ⟨rfl, k2.new o3 fun i hi => by omega⟩
theorem frameof_c {p : Int} (hp : U p) :
    Calls Tryd.prog 31 #[.int .u64 p] w fun e w' => e = .returned (.int .i64 (p / 256)) ∧ w' = w := by
  obtain ⟨h0, h1⟩ := hp
  have l0 : 0 ≤ p / 256 := by omega
  have l1 : p / 256 ≤ 72057594037927935 := by omega
  go_enter Tryd.func31, Tryd.ntmps31
  go_wp2
  go_ret
  exact ⟨rfl, rfl⟩
theorem placein_c {f p : Int} (hp : U p) (h0 : 0 ≤ f) (h1 : f < 65536) :
    Calls Tryd.prog 44 #[.int .i64 f, .int .u64 p] w fun e w' => e = .returned (.int .u64 (f * 256 + p % 256)) ∧ w' = w := by
  have p0 := hp.1
  have l0 : 0 ≤ p % 256 := by omega
  have l1 : p % 256 < 256 := by omega
  go_enter Tryd.func44, Tryd.ntmps44
  go_wp2
  go_ret
  exact ⟨rfl, rfl⟩
theorem hostlets_c (hT : Tab12 w) (b k : Int) :
    Calls Tryd.prog 43 #[.int .i64 b, .int .i64 k] w fun r w' => r = .returned (.bool (mayE b k true false false)) ∧ Kept w w' := by
  go_enter Tryd.func43, Tryd.ntmps43
  go_wp2_with fail
  refine (pmay_c hT.r _ _ _ _ _).mono ?_
  rintro r w1 ⟨rfl, k1⟩
  go_wp2
  go_ret
  exact ⟨rfl, k1⟩
theorem ask_off12 (S : StM) (level : Int) (v : Bool) : ((askS S level v).first = false → (askS S level v).asid = 0 ∧ (askS S level v).root = 0) ∧ ((askS S level v).second = false → (askS S level v).vmid = 0 ∧ (askS S level v).host = 0) := by
  unfold askS
  split
  · exact ⟨fun _ => ⟨rfl, rfl⟩, fun _ => ⟨rfl, rfl⟩⟩
  · unfold askV
    refine ⟨fun h => ?_, fun h => ?_⟩
    · simp only at h ⊢
      rw [h]
      exact ⟨rfl, rfl⟩
    · simp only at h ⊢
      rw [h]
      exact ⟨rfl, rfl⟩
theorem askV_host {f h : Int} {sum mxr : Bool} : wfA f ⟨false, false, sum, mxr, 0, 0, 0, 0⟩ = askV f h false sum mxr := by
  unfold wfA askV onI
  simp
theorem askV_guest {f h : Int} {sum mxr : Bool} : wfA f ⟨false, onI h, sum, mxr, 0, bif onI h then h / 65536 % 256 else 0, 0, bif onI h then h % 256 else 0⟩ = askV f h true sum mxr := by
  unfold wfA askV onI
  simp
def ask0 : AskM := ⟨false, false, false, false, 0, 0, 0, 0⟩
/-- The box of a state with an asking's room behind it. -/
structure StR (w w1 : World) (S : StM) : Prop where
  s : StAt w1 w.heap.size S
  r : Blk w1 (w.heap.size + 1) 46 (askA ask0)
  k : Kept w w1
theorem stR_new (w : World) (S : StM) : StR w ((w.alloc (.cells (rowOf 65 (stF S)) 27)).alloc (.cells (askA ask0) 46)) S := by
  have h0 := st_new w S
  have r0 := alloc_last (w.alloc (.cells (rowOf 65 (stF S)) 27)) (askA ask0) 46
  have n1 : (w.alloc (.cells (rowOf 65 (stF S)) 27)).heap.size = w.heap.size + 1 := Go.Deep.nblk_alloc _ _
  rw [n1] at r0
  have kk : Kept (w.alloc (.cells (rowOf 65 (stF S)) 27)) ((w.alloc (.cells (rowOf 65 (stF S)) 27)).alloc (.cells (askA ask0) 46)) := (Only.refl _ _).alloc _
  exact ⟨World.rowIs.of_block h0 (kk.same _ (World.rowIs.lt h0) id), r0, ((Only.refl _ w).alloc _).alloc _⟩
set_option maxRecDepth 10000 in
set_option maxHeartbeats 1000000 in
theorem task_mach {S : StM} (v : Bool) :
    Calls Tryd.prog 17 #[.agg (rowOf 65 (stF S)), .int .i64 3, .bool v] w fun e w' => e = .returned (.agg (askA ask0)) ∧ Kept w w' := by
  have s0 := stR_new w S
  go_enter Tryd.func17, Tryd.ntmps17
  go_upto_region 1 with (refine wpList_alloc_is rfl 46 rfl (askA ask0) ask_zero' ?_)
  generalize ((w.alloc (.cells (rowOf 65 (stF S)) 27)).alloc (.cells (askA ask0) 46)) = w1 at s0 ⊢
  go_wp2_with (first | (refine wpList_built_is (by rfl) 46 _ rfl (askA ask0) (by kernel_rfl) ?_) | (refine wpList_store_go rfl 46 _ _ rfl (w.heap.size + 1) (askA ask0) rfl rfl s0.r (ask_sz12 _) ((ask_len _).trans (ask_len _).symm) (ask_on12 _) ?_; intro w3 o3 a3))
  refine bodyPost_ret (results_cell_row rfl _ _ (w.heap.size + 1) 46 _ (0, 0) _ rfl a3 Tryd.underlying46 rfl (ask_sz12 _)) rfl ⟨rfl, s0.k.new o3 fun i hi => by omega⟩
set_option maxRecDepth 10000 in
set_option maxHeartbeats 1000000 in
theorem task_host {S : StM} (hS : S.Ok) (level : Int) (hl : ¬ level = 3) :
    Calls Tryd.prog 17 #[.agg (rowOf 65 (stF S)), .int .i64 level, .bool false] w fun e w' => e = .returned (.agg (askA (askV (S.C 15) (S.C 21) false (bitS (S.C 0) 18) (bitS (S.C 0) 19)))) ∧ Kept w w' := by
  have hd : (level == 3) = false := beq_eq_false_iff_ne.2 hl
  have s0 := stR_new w S
  have e18 : (bits .and .u64 (S.C 0) 262144 != 0) = bitS (S.C 0) 18 := by rw [bitS_gb (hS.C 0 (by omega))]; exact u_is _ 18 (by omega) 262144 rfl
  have e19 : (bits .and .u64 (S.C 0) 524288 != 0) = bitS (S.C 0) 19 := by rw [bitS_gb (hS.C 0 (by omega))]; exact u_is _ 19 (by omega) 524288 rfl
  have hU := hS.C 15 (by omega)
  rw [← askV_host]
  clear hl
  go_enter Tryd.func17, Tryd.ntmps17
  go_upto_region 1 with (refine wpList_alloc_is rfl 46 rfl (askA ask0) ask_zero' ?_)
  generalize ((w.alloc (.cells (rowOf 65 (stF S)) 27)).alloc (.cells (askA ask0) 46)) = w1 at s0 ⊢
  have c0 := s0.s.c (i := 0) (by omega)
  have c15 := s0.s.c (i := 15) (by omega)
  go_wp2_with (first | (refine wpList_built_is (by rfl) 46 _ rfl (askA ⟨false, false, bitS (S.C 0) 18, bitS (S.C 0) 19, 0, 0, 0, 0⟩) (by kernel_rfl) ?_) | (go_at_call 40; refine (wf_c hU _).mono ?_; rintro r w2 ⟨rfl, k2⟩) | (refine wpList_store_go rfl 46 _ _ rfl (w.heap.size + 1) (askA (wfA (S.C 15) ⟨false, false, bitS (S.C 0) 18, bitS (S.C 0) 19, 0, 0, 0, 0⟩)) rfl rfl (Blk.kept s0.r k2) (ask_sz12 _) ((ask_len _).trans (ask_len _).symm) (ask_on12 _) ?_; intro w3 o3 a3))
  refine bodyPost_ret (results_cell_row rfl _ _ (w.heap.size + 1) 46 _ (0, 0) _ rfl a3 Tryd.underlying46 rfl (ask_sz12 _)) rfl ⟨rfl, (s0.k.then k2).new o3 fun i hi => by omega⟩
set_option maxRecDepth 10000 in
set_option maxHeartbeats 1000000 in
theorem task_guest {S : StM} (hS : S.Ok) (level : Int) (hl : ¬ level = 3) :
    Calls Tryd.prog 17 #[.agg (rowOf 65 (stF S)), .int .i64 level, .bool true] w fun e w' => e = .returned (.agg (askA (askV (S.C 28) (S.C 21) true (bitS (S.C 22) 18) (bitS (S.C 22) 19 || bitS (S.C 0) 19)))) ∧ Kept w w' := by
  have hd : (level == 3) = false := beq_eq_false_iff_ne.2 hl
  have s0 := stR_new w S
  have u0 := hS.C 0 (by omega)
  have u22 := hS.C 22 (by omega)
  have e18 : (bits .and .u64 (S.C 22) 262144 != 0) = bitS (S.C 22) 18 := by rw [bitS_gb u22]; exact u_is _ 18 (by omega) 262144 rfl
  have e19 : (bits .and .u64 (bits .or .u64 (S.C 22) (S.C 0)) 524288 != 0) = (bitS (S.C 22) 19 || bitS (S.C 0) 19) := by
    rw [bitS_gb u22, bitS_gb u0, u_is _ 19 (by omega) 524288 rfl, gb_tb (U_or _ _), tb_or u22 u0, ← gb_tb u22, ← gb_tb u0]
  have h28 := hS.C 28 (by omega)
  have h21 := hS.C 21 (by omega)
  rw [← askV_guest]
  clear hl u0 u22
  generalize bitS (S.C 22) 18 = x at *
  generalize (bitS (S.C 22) 19 || bitS (S.C 0) 19) = y at *
  go_enter Tryd.func17, Tryd.ntmps17
  go_upto_region 1 with (refine wpList_alloc_is rfl 46 rfl (askA ask0) ask_zero' ?_)
  generalize ((w.alloc (.cells (rowOf 65 (stF S)) 27)).alloc (.cells (askA ask0) 46)) = w1 at s0 ⊢
  have c0 := s0.s.c (i := 0) (by omega)
  have c22 := s0.s.c (i := 22) (by omega)
  go_upto_region 8 with (first | (refine wpList_built_is (by rfl) 46 _ rfl (askA ⟨false, false, x, y, 0, 0, 0, 0⟩) (by kernel_rfl) ?_) | (refine wpList_alloc_go rfl 46 rfl (askA ask0) ask_zero' ?_; intro ab w2 n2 k2 m2 a2) | (refine wpList_store_go rfl 46 _ _ rfl ab (askA ⟨false, false, x, y, 0, 0, 0, 0⟩) rfl rfl a2 (ask_sz12 _) ((ask_len _).trans (ask_len _).symm) (ask_on12 _) ?_; intro w3 o3 a3))
  have l0 := s0.k.size
  have l1 := Blk.lt s0.r
  have k3 : Kept w1 w3 := k2.new o3 fun i hi => by omega
  have s3 : StR w w3 S := ⟨World.rowIs.of_block s0.s (k3.same _ (World.rowIs.lt s0.s) id), Blk.kept s0.r k3, s0.k.then k3⟩
  clear c0 c22 k2 o3 a2 k3 s0 e18 e19
  have c21 := s3.s.c (i := 21) (by omega)
  have f1 := blk_loose a3 1
  have f5 := blk_loose a3 5
  have f7 := blk_loose a3 7
  have g1 : _ = some (Value.bool false) := Blk.cell a3 1
  have g5 : _ = some (Value.int .i64 0) := Blk.cell a3 5
  have g7 : _ = some (Value.int .i64 0) := Blk.cell a3 7
  have b4 : Blk (((w3.setCell ⟨ab, 1, none⟩ (.bool (onI (S.C 21)))).setCell ⟨ab, 5, none⟩ (.int .i64 (bif onI (S.C 21) then S.C 21 / 65536 % 256 else 0))).setCell ⟨ab, 7, none⟩ (.int .i64 (bif onI (S.C 21) then S.C 21 % 256 else 0))) ab 46 (askA ⟨false, onI (S.C 21), x, y, 0, bif onI (S.C 21) then S.C 21 / 65536 % 256 else 0, 0, bif onI (S.C 21) then S.C 21 % 256 else 0⟩) := blk_set (blk_set (blk_set a3 1 _) 5 _) 7 _
  have o4 : Only (fun i => i = ab) w3 (((w3.setCell ⟨ab, 1, none⟩ (.bool (onI (S.C 21)))).setCell ⟨ab, 5, none⟩ (.int .i64 (bif onI (S.C 21) then S.C 21 / 65536 % 256 else 0))).setCell ⟨ab, 7, none⟩ (.int .i64 (bif onI (S.C 21) then S.C 21 % 256 else 0))) := (((Only.refl (fun i => i = ab) w3).setCell rfl _).setCell rfl _).setCell rfl _
  go_upto_region 9 with (go_at_call 41; refine (table_c h21).mono ?_; rintro r wy ⟨rfl, hwy⟩; rw [hwy]; clear hwy wy)
  have k4 : Kept w _ := s3.k.new o4 fun i hi => by omega
  have s4 : StAt _ w.heap.size S := World.rowIs.of_block s3.s (o4.same _ (World.rowIs.lt s3.s) (by omega))
  have r4 := Blk.past s3.r o4 (by omega)
  clear f1 f5 f7 g1 g5 g7 a3 o4 s3 c21
  generalize (((w3.setCell ⟨ab, 1, none⟩ (.bool (onI (S.C 21)))).setCell ⟨ab, 5, none⟩ (.int .i64 (bif onI (S.C 21) then S.C 21 / 65536 % 256 else 0))).setCell ⟨ab, 7, none⟩ (.int .i64 (bif onI (S.C 21) then S.C 21 % 256 else 0))) = w4 at b4 k4 s4 r4 ⊢
  have c28 := StAt.c s4 (i := 28) (by omega)
  go_wp2_with (first | (refine wpList_load_blk (by rfl) 46 _ rfl ab rfl b4 _ Tryd.underlying46 rfl (ask_sz12 _) ?_) | (go_at_call 40; refine (wf_c h28 _).mono ?_; rintro r w5 ⟨rfl, k5⟩) | (refine wpList_store_go rfl 46 _ _ rfl (w.heap.size + 1) (askA (wfA (S.C 28) ⟨false, onI (S.C 21), x, y, 0, bif onI (S.C 21) then S.C 21 / 65536 % 256 else 0, 0, bif onI (S.C 21) then S.C 21 % 256 else 0⟩)) rfl rfl (Blk.kept r4 k5) (ask_sz12 _) ((ask_len _).trans (ask_len _).symm) (ask_on12 _) ?_; intro w6 o6 a6))
  refine bodyPost_ret (results_cell_row rfl _ _ (w.heap.size + 1) 46 _ (0, 0) _ rfl a6 Tryd.underlying46 rfl (ask_sz12 _)) rfl ⟨rfl, (k4.then k5).new o6 fun i hi => by omega⟩
theorem task_any (_ : Tab12 w) {S : StM} (hS : S.Ok) (level : Int) (v : Bool) :
    Calls Tryd.prog 17 #[.agg (rowOf 65 (stF S)), .int .i64 level, .bool v] w fun e w' => e = .returned (.agg (askA (askS S level v))) ∧ Kept w w' := by
  unfold askS
  by_cases hl : level = 3
  · subst hl
    rw [if_pos rfl]
    exact task_mach v
  · rw [if_neg hl]
    cases v
    · exact task_host hS level hl
    · exact task_guest hS level hl
theorem knd_f (k : Int) : knd k false = k := rfl
theorem gst_off {B : Nat → Int} {a : AskM} {place k : Int} (hs : a.second = false) : gstS B a place k false = if 65536 ≤ place then ⟨0, 255, 1⟩ else ⟨place, 255, 0⟩ := by
  unfold gstS
  rw [hs]
  split
  · rfl
  · rw [if_pos rfl]
theorem gst_on {B : Nat → Int} {a : AskM} {place k : Int} (hs : a.second = true) : gstS B a place k false =
    if ¬ (wkS B a.host place).c = 0 then ⟨0, 255, (wkS B a.host place).c⟩ else
    if mayE ((wkS B a.host place).e % 256) k true false false = false then ⟨0, 255, 1⟩ else
    ⟨(wkS B a.host place).f * 256 + place % 256, (wkS B a.host place).e % 256, 0⟩ := by
  unfold gstS
  rw [knd_f, hs]
  by_cases h : 65536 ≤ place
  · have hw : wkS B a.host place = ⟨0, 0, 1⟩ := by unfold wkS; rw [if_pos h]
    rw [if_pos h, hw, if_pos (by decide)]
  · rw [if_neg h, if_neg (by decide)]
theorem wk_frame {B : Nat → Int} (hB : ∀ i, i < 32768 → 0 ≤ B i ∧ B i < 256) (root a : Int) (hc : (wkS B root a).c = 0) : frI (wkS B root a).e = (wkS B root a).f := by
  have hl := low_bd a
  revert hc
  unfold wkS
  split
  · intro h; exact absurd h (by decide)
  · split
    · intro h; exact absurd h (by decide)
    · split
      · intro h; exact absurd h (by decide)
      · split
        · split
          · rename_i h1 h2 h3 h4 h5
            intro _
            have hi := leaf_is h4
            have hs := is_small (U_ent hB root (topI a)) hi
            simp only
            unfold frI at h5 ⊢
            omega
          · intro h; exact absurd h (by decide)
        · split
          · intro h; exact absurd h (by decide)
          · split
            · intro _; rfl
            · intro h; exact absurd h (by decide)
/-- The second leaf's bits; 0 where there is none. -/
def gstB (g : Gst) : Int := if g.c = 0 then g.b else 0
section
variable {p q : Nat} {B : Nat → Int}
set_option maxHeartbeats 1000000 in
theorem second_off (a : AskM) (place k : Int) (hs : a.second = false) (x : Value) :
    Calls Tryd.prog 38 #[x, .agg (askA a), .int .u64 place, .int .i64 k] w fun e w' => e = .returned (.tuple #[.int .u64 (gstS B a place k false).p, .int .i64 (gstB (gstS B a place k false)), .int .i64 (gstS B a place k false).c]) ∧ Kept w w' := by
  have b0 := alloc_last w (askA a) 46
  have kk : Kept w (w.alloc (.cells (askA a) 46)) := (Only.refl _ w).alloc _
  have c1 : _ = some (Value.bool a.second) := Blk.cell b0 1
  rw [hs] at c1
  rw [gst_off hs]
  unfold gstB
  by_cases h : 65536 ≤ place
  · rw [if_pos h]
    clear b0
    go_enter Tryd.func38, Tryd.ntmps38
    go_wp2
    exact bodyPost_ret (results_tmp3 rfl _ _ _) rfl ⟨rfl, kk⟩
  · rw [if_neg h]
    clear b0
    go_enter Tryd.func38, Tryd.ntmps38
    go_wp2
    exact bodyPost_ret (results_tmp3 rfl _ _ _) rfl ⟨rfl, kk⟩
set_option maxHeartbeats 1000000 in
theorem second_on (hT : Tab12 w) (hm : ProgAt w p q B) (a : AskM) (place k : Int) (hp : U place) (hs : a.second = true) :
    Calls Tryd.prog 38 #[.pointer (some ⟨p, 0, none⟩), .agg (askA a), .int .u64 place, .int .i64 k] w fun e w' => e = .returned (.tuple #[.int .u64 (gstS B a place k false).p, .int .i64 (gstB (gstS B a place k false)), .int .i64 (gstS B a place k false).c]) ∧ Kept w w' := by
  have b0 := alloc_last w (askA a) 46
  have kk : Kept w (w.alloc (.cells (askA a) 46)) := (Only.refl _ w).alloc _
  have c1 : _ = some (Value.bool a.second) := Blk.cell b0 1
  have c7 : _ = some (Value.int .i64 a.host) := Blk.cell b0 7
  rw [hs] at c1
  rw [gst_on hs]
  have hr := fun w1 (k1 : Kept w w1) => wwalk_any (w := w1) ⟨rfl⟩ (hm.kept k1) a.host place hp
  obtain ⟨u0, u1, u2, u3, _⟩ := wk_U hm.byte a.host place
  have hfr := wk_frame hm.byte a.host place
  have hb : bits .and .u64 (wkS B a.host place).e 255 = (wkS B a.host place).e % 256 := u_low _ 8 (by omega) 255 rfl
  have hb0 : 0 ≤ (wkS B a.host place).e % 256 := by omega
  have hb1 : (wkS B a.host place).e % 256 < 256 := by omega
  generalize wkS B a.host place = X at *
  obtain ⟨xe, xf, xc⟩ := X
  simp only at hr u0 u1 u2 u3 hfr hb hb0 hb1 ⊢
  have hr1 := hr _ kk
  clear hr b0
  by_cases hc : xc = 0
  · subst hc
    have hfq := hfr rfl
    clear hfr
    rw [if_neg (by decide)]
    cases hy : mayE (xe % 256) k true false false
    · rw [if_pos rfl]
      go_enter Tryd.func38, Tryd.ntmps38
      go_wp2_with fail
      refine hr1.mono ?_
      rintro e w2 ⟨rfl, k2⟩
      clear hr1 c1 c7
      go_wp2_with fail
      refine (hostlets_c (hT.kept (kk.then k2)) _ _).mono ?_
      rintro e w3 ⟨rfl, k3⟩
      rw [hy]
      go_wp2
      exact bodyPost_ret (results_tmp3 rfl _ _ _) rfl ⟨rfl, (kk.then k2).then k3⟩
    · rw [if_neg (by decide)]
      go_enter Tryd.func38, Tryd.ntmps38
      go_wp2_with fail
      refine hr1.mono ?_
      rintro e w2 ⟨rfl, k2⟩
      clear hr1 c1 c7
      go_wp2_with fail
      refine (hostlets_c (hT.kept (kk.then k2)) _ _).mono ?_
      rintro e w3 ⟨rfl, k3⟩
      rw [hy]
      go_wp2_with fail
      refine (pframe_c _).mono ?_
      rintro e w4 ⟨rfl, k4⟩
      rw [hfq]
      go_wp2_with fail
      refine (placein_c hp u2 (by omega)).mono ?_
      rintro e wy ⟨rfl, hwy⟩
      rw [hwy]
      clear hwy wy
      go_wp2
      exact bodyPost_ret (results_tmp3 rfl _ _ _) rfl ⟨rfl, ((kk.then k2).then k3).then k4⟩
  · have hn : (xc != 0) = true := bne_iff_ne.2 hc
    rw [if_pos hc]
    unfold gstB
    rw [if_neg hc]
    clear hc
    go_enter Tryd.func38, Tryd.ntmps38
    go_wp2_with fail
    refine hr1.mono ?_
    rintro e w2 ⟨rfl, k2⟩
    clear hr1 c1 c7
    go_wp2
    exact bodyPost_ret (results_tmp3 rfl _ _ _) rfl ⟨rfl, kk.then k2⟩
theorem second_c (hT : Tab12 w) (hm : ProgAt w p q B) (a : AskM) (place k : Int) (hp : U place) :
    Calls Tryd.prog 38 #[.pointer (some ⟨p, 0, none⟩), .agg (askA a), .int .u64 place, .int .i64 k] w fun e w' => e = .returned (.tuple #[.int .u64 (gstS B a place k false).p, .int .i64 (gstB (gstS B a place k false)), .int .i64 (gstS B a place k false).c]) ∧ Kept w w' := by
  cases hs : a.second
  · exact second_off a place k hs _
  · exact second_on hT hm a place k hp hs
set_option maxHeartbeats 1000000 in
theorem tguest_any (hT : Tab12 w) (hm : ProgAt w p q B) {S : StM} (hS : S.Ok) (place k : Int) (_ : k = 0 ∨ k = 1 ∨ k = 2) (hp : U place) :
    Calls Tryd.prog 15 #[.pointer (some ⟨p, 0, none⟩), .agg (rowOf 65 (stF S)), .int .u64 place, .int .i64 k] w fun e w' => e = .returned (.tuple #[.int .u64 (gstS B (askS S 1 true) place k false).p, .int .i64 (gstS B (askS S 1 true) place k false).c]) ∧ Kept w w' := by
  have s0 := st_new w S
  have kk : Kept w (w.alloc (.cells (rowOf 65 (stF S)) 27)) := (Only.refl _ w).alloc _
  go_enter Tryd.func15, Tryd.ntmps15
  go_upto_region 1 with fail
  generalize (w.alloc (.cells (rowOf 65 (stF S)) 27)) = w1 at s0 kk ⊢
  go_wp2_with (first | (refine wpList_load_is (by rfl) 27 _ rfl rfl s0 _ Tryd.underlying27 rfl st_size ?_) | (go_at_call 17; refine (task_any (hT.kept kk) hS 1 true).mono ?_; rintro r w2 ⟨rfl, k2⟩) | (go_at_call 38; refine (second_c (hT.kept (kk.then k2)) (hm.kept (kk.then k2)) _ _ _ hp).mono ?_; rintro r w3 ⟨rfl, k3⟩))
  go_ret2
  exact ⟨rfl, (kk.then k2).then k3⟩
end
def causeC (wrong k : Int) : Int := if wrong = 1 then pageC k else if wrong = 2 then gfC k else badC k
set_option maxHeartbeats 4000000 in
theorem cause_c (wrong k : Int) (hw : wrong = 1 ∨ wrong = 2 ∨ wrong = 3) (hk : k = 0 ∨ k = 1 ∨ k = 2) :
    Calls Tryd.prog 56 #[.int .i64 wrong, .int .i64 k] w fun e w' => e = .returned (.int .u64 (causeC wrong k)) ∧ Kept w w' := by
  rcases hw with rfl | rfl | rfl <;> rcases hk with rfl | rfl | rfl
  all_goals
    go_enter Tryd.func56, Tryd.ntmps56
    go_wp2
    go_ret
    exact ⟨rfl, (Only.refl _ w).alloc _⟩
/-- What a fault tells. -/
def fltW (wrong k at_ place : Int) (v : Bool) : FltM := ⟨causeC wrong k, at_, if wrong = 2 then place / 4 else 0, v⟩
set_option maxHeartbeats 1000000 in
theorem fault_c (wrong k at_ place : Int) (v : Bool) (hw : wrong = 1 ∨ wrong = 2 ∨ wrong = 3) (hk : k = 0 ∨ k = 1 ∨ k = 2) (hp : U place) :
    Calls Tryd.prog 30 #[.int .i64 wrong, .int .i64 k, .int .u64 at_, .int .u64 place, .bool v] w fun e w' => e = .returned (.agg (fltA (fltW wrong k at_ place v)).toArray) ∧ Kept w w' := by
  have hc := fun w1 => cause_c (w := w1) wrong k hw hk
  have p0 := hp.1
  unfold fltW
  generalize causeC wrong k = c at *
  by_cases h2 : wrong = 2
  · subst h2
    rw [if_pos rfl]
    clear hw
    go_enter Tryd.func30, Tryd.ntmps30
    go_upto_region 1 with (refine wpList_alloc_go rfl 38 rfl (fltA fltNone).toArray flt_zero' ?_; intro rb w1 n1 k1 m1 r1)
    go_upto_region 2 with (first | (go_at_call 56; refine (hc _).mono ?_; rintro r w2 ⟨rfl, k2⟩) | (refine wpList_built_is (by rfl) 38 _ rfl (fltA ⟨c, at_, 0, v⟩).toArray (by kernel_rfl) ?_) | (refine wpList_alloc_go rfl 38 rfl (fltA fltNone).toArray flt_zero' ?_; intro fb w3 n3 k3 m3 r3) | (refine wpList_store_go rfl 38 _ _ rfl fb (fltA ⟨c, at_, 0, v⟩).toArray rfl rfl r3 (flt_size' _) ((flt_len _).trans (flt_len _).symm) (flt_ones' _) ?_; intro w4 o4 a4))
    try simp only [Act.put, List.setIfInBounds_toArray, List.set_cons_zero, List.set_cons_succ]
    have l2 := k2.size
    have r4 := ((r1.kept k2).kept k3).past o4 (by omega)
    have k4 : Kept w w4 := ((k1.then k2).then k3).new o4 fun i hi => by have := k1.size; omega
    have hn : fb ≠ rb := by omega
    have hf : w.heap.size ≤ fb := by have := k1.size; omega
    have hr : w.heap.size ≤ rb := by omega
    clear r1 k1 k2 k3 r3 o4 hc l2 n1 n3 m1 m3
    have f2 := blk_loose a4 2
    have g2 : _ = some (Value.int .u64 0) := Blk.cell a4 2
    have a5 : Blk (w4.setCell ⟨fb, 2, none⟩ (.int .u64 (place / 4))) fb 38 (fltA ⟨c, at_, place / 4, v⟩).toArray := blk_set a4 2 _
    have o5 : Only (fun i => i = fb) w4 (w4.setCell ⟨fb, 2, none⟩ (.int .u64 (place / 4))) := (Only.refl (fun i => i = fb) w4).setCell rfl _
    have r5 := r4.past o5 (Ne.symm hn)
    have k5 := k4.new o5 fun i hi => by omega
    clear a4 o5 r4 k4
    go_upto_region 4 with fail
    clear f2 g2
    generalize (w4.setCell ⟨fb, 2, none⟩ (.int .u64 (place / 4))) = w5 at a5 r5 k5 ⊢
    go_wp2_with (first | (refine wpList_load_blk (by rfl) 38 _ rfl fb rfl a5 _ Tryd.underlying38 rfl (flt_size' _) ?_) | (refine wpList_store_go rfl 38 _ _ rfl rb (fltA ⟨c, at_, place / 4, v⟩).toArray rfl rfl r5 (flt_size' _) ((flt_len _).trans (flt_len _).symm) (flt_ones' _) ?_; intro w6 o6 a6))
    refine bodyPost_ret (results_cell_row rfl _ _ rb 38 _ (0, 0) _ rfl a6 Tryd.underlying38 rfl (flt_size' _)) rfl ⟨rfl, k5.new o6 fun i hi => by omega⟩
  · have hd : (wrong == 2) = false := beq_eq_false_iff_ne.2 h2
    rw [if_neg h2]
    clear h2 hw
    go_enter Tryd.func30, Tryd.ntmps30
    go_upto_region 1 with (refine wpList_alloc_go rfl 38 rfl (fltA fltNone).toArray flt_zero' ?_; intro rb w1 n1 k1 m1 r1)
    go_upto_region 2 with (first | (go_at_call 56; refine (hc _).mono ?_; rintro r w2 ⟨rfl, k2⟩) | (refine wpList_built_is (by rfl) 38 _ rfl (fltA ⟨c, at_, 0, v⟩).toArray (by kernel_rfl) ?_) | (refine wpList_alloc_go rfl 38 rfl (fltA fltNone).toArray flt_zero' ?_; intro fb w3 n3 k3 m3 r3) | (refine wpList_store_go rfl 38 _ _ rfl fb (fltA ⟨c, at_, 0, v⟩).toArray rfl rfl r3 (flt_size' _) ((flt_len _).trans (flt_len _).symm) (flt_ones' _) ?_; intro w4 o4 a4))
    try simp only [Act.put, List.setIfInBounds_toArray, List.set_cons_zero, List.set_cons_succ]
    have l2 := k2.size
    have r4 := ((r1.kept k2).kept k3).past o4 (by omega)
    have k4 : Kept w w4 := ((k1.then k2).then k3).new o4 fun i hi => by have := k1.size; omega
    have hn : fb ≠ rb := by omega
    have hf : w.heap.size ≤ fb := by have := k1.size; omega
    have hr : w.heap.size ≤ rb := by omega
    clear r1 k1 k2 k3 r3 o4 hc l2 n1 n3 m1 m3
    go_wp2_with (first | (refine wpList_load_blk (by rfl) 38 _ rfl fb rfl a4 _ Tryd.underlying38 rfl (flt_size' _) ?_) | (refine wpList_store_go rfl 38 _ _ rfl rb (fltA ⟨c, at_, 0, v⟩).toArray rfl rfl r4 (flt_size' _) ((flt_len _).trans (flt_len _).symm) (flt_ones' _) ?_; intro w6 o6 a6))
    refine bodyPost_ret (results_cell_row rfl _ _ rb 38 _ (0, 0) _ rfl a6 Tryd.underlying38 rfl (flt_size' _)) rfl ⟨rfl, k4.new o6 fun i hi => by omega⟩
set_option maxHeartbeats 1000000 in
theorem straight_c (at_ : Int) (v : Bool) (ha : U at_) :
    Calls Tryd.prog 28 #[.int .u64 at_, .bool v] w fun e w' => e = .returned (.agg (entA ⟨true, v, if at_ < 65536 then at_ / 256 else 0, 0, 0, if at_ < 65536 then at_ / 256 else 0, 255, 255, if at_ < 65536 then at_ / 256 else 0⟩).toArray) ∧ Kept w w' := by
  by_cases h : at_ < 65536
  · rw [if_pos h]
    go_enter Tryd.func28, Tryd.ntmps28
    go_wp2_with (first | (refine wpList_alloc_go rfl 36 rfl (entA entNone).toArray ent_zero' ?_; intro rb w1 n1 k1 m1 r1) | (go_at_call 31; refine (frameof_c ha).mono ?_; rintro r wy ⟨rfl, hwy⟩; rw [hwy]; clear hwy wy) | (refine wpList_built_is (by rfl) 36 _ rfl (entA ⟨true, v, at_ / 256, 0, 0, at_ / 256, 255, 255, at_ / 256⟩).toArray (by kernel_rfl) ?_) | (refine wpList_store_go rfl 36 _ _ rfl rb (entA ⟨true, v, at_ / 256, 0, 0, at_ / 256, 255, 255, at_ / 256⟩).toArray rfl rfl r1 (ent_size' _) ((ent_len _).trans (ent_len _).symm) (ent_ones' _) ?_; intro w3 o3 a3))
    refine bodyPost_ret (results_cell_row rfl _ _ rb 36 _ (0, 0) _ rfl a3 Tryd.underlying36 rfl (ent_size' _)) rfl ⟨rfl, k1.new o3 fun i hi => by omega⟩
  · rw [if_neg h]
    go_enter Tryd.func28, Tryd.ntmps28
    go_wp2_with (first | (refine wpList_alloc_go rfl 36 rfl (entA entNone).toArray ent_zero' ?_; intro rb w1 n1 k1 m1 r1) | (refine wpList_built_is (by rfl) 36 _ rfl (entA ⟨true, v, 0, 0, 0, 0, 255, 255, 0⟩).toArray (by kernel_rfl) ?_) | (refine wpList_store_go rfl 36 _ _ rfl rb (entA ⟨true, v, 0, 0, 0, 0, 255, 255, 0⟩).toArray rfl rfl r1 (ent_size' _) ((ent_len _).trans (ent_len _).symm) (ent_ones' _) ?_; intro w3 o3 a3))
    refine bodyPost_ret (results_cell_row rfl _ _ rb 36 _ (0, 0) _ rfl a3 Tryd.underlying36 rfl (ent_size' _)) rfl ⟨rfl, k1.new o3 fun i hi => by omega⟩
end
end Go.Proofs.YtpplclenokfpeaaDoor
