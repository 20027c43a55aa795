/-
  What package pte's calls answer (Make, Frame, Is, Leaf, May), in the document's words: walked whole, for every argument.
-/
import Derived.Test.YtlgmnnfgekmibaaDoorTPteMath
import Derived.Test.YtlgmnnfgekmibaaDoorPText
import Derived.Test.YtlgmnnfgekmibaaDoorRowIs
import Derived.Test.YtlgmnnfgekmibaaDoorLaid
import Derived.Test.YtlgmnnfgekmibaaDoorPShelf
import Derived.OwnWalk
namespace Go.Proofs.YtlgmnnfgekmibaaDoor
open Go.RowKit
def riL : List Value := flatD 4 (Rows.laid_sallyport_pte_rights (H := Unit))
def leL : List Value := flatD 4 (Rows.laid_sallyport_pte_letters (H := Unit))
/-- The listed tables' cells. -/
structure Tab10 (w : World) : Prop where
  r : ∀ i v, riL[i]? = some v → w.cell? ⟨1, i, none⟩ = some v
  l : ∀ i v, leL[i]? = some v → w.cell? ⟨0, i, none⟩ = some v
  p : Lib.TabIs Tryd.prog w "internal/strconv.uint64pow10" .u64 Lib.pow10Tab
theorem tabis_kept {a b : World} (hp : Lib.TabIs Tryd.prog a "internal/strconv.uint64pow10" .u64 Lib.pow10Tab) (g : Kept a b) : Lib.TabIs Tryd.prog b "internal/strconv.uint64pow10" .u64 Lib.pow10Tab := by
  unfold Lib.TabIs World.var? at *
  cases hg : Program.globalNamed Tryd.prog "internal/strconv.uint64pow10" with
  | none => simp [hg] at hp
  | some j =>
    simp only [hg, Option.bind_some] at hp ⊢
    cases hb : a.heap[j]? with
    | none => simp [hb] at hp
    | some o =>
      cases o with
      | cells c t fr => rw [hb] at hp; rw [g.block hb id]; exact hp
      | _ => simp [hb] at hp
theorem Tab10.kept {w w' : World} (h : Tab10 w) (k : Kept w w') : Tab10 w' := ⟨fun i v hi => k.cell (h.r i v hi), fun i v hi => k.cell (h.l i v hi), tabis_kept h.p k⟩
section
variable {w : World}
set_option maxHeartbeats 1000000 in
theorem pmake_any (_ : Tab10 w) (f b : Int) :
    Calls Tryd.prog 8 #[.int .i64 f, .int .i64 b] w fun r w' => r = .returned (.int .u64 (makI f b)) ∧ Kept w w' := by
  rw [← make_is]
  go_enter Tryd.func8, Tryd.ntmps8
  go_wp2_with fail
  refine (set_any _ _ _ _ _).mono ?_
  rintro e w' ⟨rfl, rfl⟩
  go_wp2_with fail
  refine (set_any _ _ _ _ _).mono ?_
  rintro e w' ⟨rfl, rfl⟩
  go_wp2
  go_ret
  exact ⟨rfl, Only.refl _ _⟩
set_option maxHeartbeats 1000000 in
theorem pframe_of (e : Int) :
    Calls Tryd.prog 10 #[.int .u64 e] w fun r w' => r = .returned (.int .i64 (frI e)) ∧ w' = w := by
  have h0 : 0 ≤ frI e := by unfold frI; omega
  have h1 : frI e < 256 := by unfold frI; omega
  go_enter Tryd.func10, Tryd.ntmps10
  go_wp2_with fail
  refine (bits_any _ _ _ _).mono ?_
  rintro r w' ⟨rfl, rfl⟩
  rw [frame_is]
  go_wp2
  go_ret
  exact ⟨rfl, rfl⟩
theorem pframe_any (_ : Tab10 w) (e : Int) (_ : U e) :
    Calls Tryd.prog 10 #[.int .u64 e] w fun r w' => r = .returned (.int .i64 (frI e)) ∧ Kept w w' := by
  exact (pframe_of e).mono fun _ _ h => ⟨h.1, h.2 ▸ Only.refl _ _⟩
set_option maxHeartbeats 1000000 in
theorem pis_of (e : Int) (he : U e) :
    Calls Tryd.prog 12 #[.int .u64 e] w fun r w' => r = .returned (.bool (isE e)) ∧ w' = w := by
  have h0 := u_is e 0 (by omega) 1 rfl
  have h6 := six_is e
  have hk := known_is he
  unfold isE
  generalize (!gb e 2 || gb e 1) = b at *
  generalize ((e / 65536 == 0) && !gb e 5) = c at *
  cases hg : gb e 0 <;> cases b <;> cases c
  all_goals
    rw [hg] at h0
    clear hg
    go_enter Tryd.func12, Tryd.ntmps12
    go_wp2
    go_ret
    exact ⟨rfl, rfl⟩
theorem pis_any (_ : Tab10 w) (e : Int) (he : U e) :
    Calls Tryd.prog 12 #[.int .u64 e] w fun r w' => r = .returned (.bool (isE e)) ∧ Kept w w' := by
  exact (pis_of e he).mono fun _ _ h => ⟨h.1, h.2 ▸ Only.refl _ _⟩
set_option maxHeartbeats 1000000 in
theorem pleaf_any (_ : Tab10 w) (e : Int) (he : U e) :
    Calls Tryd.prog 14 #[.int .u64 e] w fun r w' => r = .returned (.bool (leafE e)) ∧ Kept w w' := by
  have h0 := u_two e
  unfold leafE
  generalize (gb e 1 || gb e 3) = b at *
  cases hi : isE e <;> cases b
  all_goals
    go_enter Tryd.func14, Tryd.ntmps14
    go_wp2_with fail
    refine (pis_of e he).mono ?_
    rintro r w' ⟨rfl, rfl⟩
    rw [hi]
    go_wp2
    go_ret
    exact ⟨rfl, Only.refl _ _⟩
/-- Whose page it is, but for A. -/
def rchE (b k : Int) (user sum : Bool) : Bool := bif user then gb b 4 else (!gb b 4 || (sum && !(k == 0)))
set_option maxHeartbeats 1000000 in
theorem reaches_any (b k : Int) (user sum : Bool) :
    Calls Tryd.prog 22 #[.int .i64 b, .int .i64 k, .bool user, .bool sum] w fun r w' => r = .returned (.bool (rchE b k user sum)) ∧ w' = w := by
  have h4 := i_is b 4 (by omega) 16 rfl
  have hk : (k != 0) = !(k == 0) := rfl
  unfold rchE
  cases hg : gb b 4 <;> cases user <;> cases sum <;> cases hz : (k == 0)
  all_goals
    rw [hg] at h4
    rw [hz] at hk
    clear hg hz
    simp only [Bool.not_true, Bool.not_false] at hk
    go_enter Tryd.func22, Tryd.ntmps22
    go_wp2
    go_ret
    exact ⟨rfl, rfl⟩
/-- A row of rights, by its number: the kind, the bits, whether mxr must be on. -/
def rK (j : Nat) : Int := intOf (riL.getD (3 * j) (.int .i64 0))
def rB (j : Nat) : Int := intOf (riL.getD (3 * j + 1) (.int .i64 0))
def rM (j : Nat) : Bool := j == 2
theorem ri_len : riL.length = 12 := by decide +kernel
theorem sizeRi : (Tryd.prog.info? 48).map (·.size) = some riL.length := by rw [ri_len]; kernel_rfl
theorem ri_row0 (w : World) : (Instr.index 48 (.agg riL.toArray) (.int .i64 0)).run Tryd.prog w = .ok (.agg #[.int .i64 (rK 0), .int .i64 (rB 0), .bool (rM 0)]) w := by kernel_rfl
theorem ri_row1 (w : World) : (Instr.index 48 (.agg riL.toArray) (.int .i64 1)).run Tryd.prog w = .ok (.agg #[.int .i64 (rK 1), .int .i64 (rB 1), .bool (rM 1)]) w := by kernel_rfl
theorem ri_row2 (w : World) : (Instr.index 48 (.agg riL.toArray) (.int .i64 2)).run Tryd.prog w = .ok (.agg #[.int .i64 (rK 2), .int .i64 (rB 2), .bool (rM 2)]) w := by kernel_rfl
theorem ri_row3 (w : World) : (Instr.index 48 (.agg riL.toArray) (.int .i64 3)).run Tryd.prog w = .ok (.agg #[.int .i64 (rK 3), .int .i64 (rB 3), .bool (rM 3)]) w := by kernel_rfl
theorem ri_row (k : Nat) (hk : k < 4) (w : World) : (Instr.index 48 (.agg riL.toArray) (.int .i64 (k : Int))).run Tryd.prog w = .ok (.agg #[.int .i64 (rK k), .int .i64 (rB k), .bool (rM k)]) w := by
  have : k = 0 ∨ k = 1 ∨ k = 2 ∨ k = 3 := by omega
  rcases this with rfl | rfl | rfl | rfl
  · exact ri_row0 w
  · exact ri_row1 w
  · exact ri_row2 w
  · exact ri_row3 w
/-- Whether a row lets it. -/
def hitR (b k : Int) (mxr : Bool) (j : Nat) : Bool := (rK j == k) && ((bits .and .i64 b (rB j) == rB j) && (mxr || !rM j))
def letR (b k : Int) (mxr : Bool) : Nat → Bool
  | 0 => false
  | n + 1 => letR b k mxr n || hitR b k mxr n
theorem let_can (b k : Int) (mxr : Bool) : letR b k mxr 4 = canE b k mxr := by
  have k0 : rK 0 = 0 := by decide +kernel
  have k1 : rK 1 = 1 := by decide +kernel
  have k2 : rK 2 = 1 := by decide +kernel
  have k3 : rK 3 = 2 := by decide +kernel
  have b0 : rB 0 = 8 := by decide +kernel
  have b1 : rB 1 = 2 := by decide +kernel
  have b2 : rB 2 = 8 := by decide +kernel
  have b3 : rB 3 = 132 := by decide +kernel
  have e3 := i_eq b 3 (by omega) 8 rfl
  have e1 := i_eq b 1 (by omega) 2 rfl
  have ew := i_wd b
  simp only [letR, hitR, k0, k1, k2, k3, b0, b1, b2, b3, e3, e1, ew, rM]
  unfold canE
  by_cases h0 : k = 0
  · subst h0
    cases gb b 3 <;> cases gb b 1 <;> cases gb b 2 <;> cases gb b 7 <;> cases mxr <;> rfl
  · by_cases h1 : k = 1
    · subst h1
      cases gb b 3 <;> cases gb b 1 <;> cases gb b 2 <;> cases gb b 7 <;> cases mxr <;> rfl
    · by_cases h2 : k = 2
      · subst h2
        cases gb b 3 <;> cases gb b 1 <;> cases gb b 2 <;> cases gb b 7 <;> cases mxr <;> rfl
      · have d0 : ((0 : Int) == k) = false := beq_eq_false_iff_ne.2 (Ne.symm h0)
        have d1 : ((1 : Int) == k) = false := beq_eq_false_iff_ne.2 (Ne.symm h1)
        have d2 : ((2 : Int) == k) = false := beq_eq_false_iff_ne.2 (Ne.symm h2)
        have f0 : (k == 0) = false := beq_eq_false_iff_ne.2 h0
        have f1 : (k == 1) = false := beq_eq_false_iff_ne.2 h1
        have f2 : (k == 2) = false := beq_eq_false_iff_ne.2 h2
        rw [d0, d1, d2, f0, f1, f2]
        rfl
theorem let_rest {b k : Int} {mxr : Bool} {j : Nat} (h : hitR b k mxr j = true) : ∀ n, j < n → letR b k mxr n = true
  | 0, hn => by omega
  | n + 1, hn => by
    unfold letR
    by_cases hj : j = n
    · rw [← hj, h, Bool.or_true]
    · rw [let_rest h n (by omega), Bool.true_or]
set_option maxRecDepth 10000 in
set_option maxHeartbeats 4000000 in
theorem lets_any (hT : Tab10 w) (b k : Int) (mxr : Bool) :
    Calls Tryd.prog 23 #[.int .i64 b, .int .i64 k, .bool mxr] w fun r w' => r = .returned (.bool (canE b k mxr)) ∧ Kept w w' := by
  rw [← let_can]
  go_enter Tryd.func23, Tryd.ntmps23
  go_wp2_with (refine wpList_load_list rfl 48 _ rfl 1 rfl riL _ hT.r Tryd.underlying48 rfl sizeRi ?_)
  go_loopw [10] (fun i wr => ∃ j : Nat, j ≤ 4 ∧ i = .int .i64 (j : Int) ∧ letR b k mxr j = false ∧ Kept w wr) (fun i _ => 4 - (intOf i).toNat)
  case atStart => exact ⟨0, by omega, rfl, rfl, Only.refl _ _⟩
  case round =>
    obtain ⟨j, hj, rfl, hno, hg⟩ := hrel
    by_cases hlt : j < 4
    · have hx := ri_row j hlt
      have hlt' : (j : Int) < 4 := by omega
      have hk1 := hg.alloc (.cells #[.int .i64 (rK j), .int .i64 (rB j), .bool (rM j)] 47)
      have hrest := let_rest (b := b) (k := k) (mxr := mxr) (j := j)
      have hnext : hitR b k mxr j = false → letR b k mxr (j + 1) = false := fun h => by unfold letR; rw [hno, h]; rfl
      unfold hitR at hrest hnext
      generalize rK j = rk at *
      generalize rB j = rb at *
      generalize rM j = rm at *
      cases c1 : rk == k
      · have hn := hnext (by rw [c1]; rfl)
        clear hnext hrest
        go_wp2
        exact ⟨⟨j + 1, by omega, by go_num, hn, hk1⟩, by simp [intOf]; omega⟩
      · cases c2 : bits .and .i64 b rb == rb
        · have hn := hnext (by rw [c1, c2]; rfl)
          clear hnext hrest
          go_wp2
          exact ⟨⟨j + 1, by omega, by go_num, hn, hk1⟩, by simp [intOf]; omega⟩
        · cases mxr
          · cases rm
            · have hn := hrest (by rw [c1, c2]; rfl) 4 hlt
              clear hnext hrest
              go_wp2
              go_ret
              exact ⟨by rw [hn]; rfl, hk1⟩
            · have hn := hnext (by rw [c1, c2]; rfl)
              clear hnext hrest
              go_wp2
              exact ⟨⟨j + 1, by omega, by go_num, hn, hk1⟩, by simp [intOf]; omega⟩
          · have hn := hrest (by rw [c1, c2]; rfl) 4 hlt
            clear hnext hrest
            go_wp2
            go_ret
            exact ⟨by rw [hn]; rfl, hk1⟩
    · obtain rfl : j = 4 := by omega
      go_wp2
      go_ret
      exact ⟨by rw [hno]; rfl, hg⟩
set_option maxHeartbeats 1000000 in
theorem pmay_any (hT : Tab10 w) (b k : Int) (user sum mxr : Bool) :
    Calls Tryd.prog 16 #[.int .i64 b, .int .i64 k, .bool user, .bool sum, .bool mxr] w fun r w' => r = .returned (.bool (mayE b k user sum mxr)) ∧ Kept w w' := by
  have h6 := i_is b 6 (by omega) 64 rfl
  have hm : mayE b k user sum mxr = (gb b 6 && (rchE b k user sum && canE b k mxr)) := by
    unfold mayE whoE rchE
    rw [Bool.and_assoc]
  rw [hm]
  cases c6 : gb b 6
  · rw [c6] at h6
    clear c6 hT hm
    go_enter Tryd.func16, Tryd.ntmps16
    go_wp2
    go_ret
    exact ⟨rfl, Only.refl _ _⟩
  · rw [c6] at h6
    clear c6 hm
    cases cr : rchE b k user sum
    · clear hT
      go_enter Tryd.func16, Tryd.ntmps16
      go_wp2_with fail
      refine (reaches_any b k user sum).mono ?_
      rintro r w' ⟨rfl, rfl⟩
      rw [cr]
      go_wp2
      go_ret
      exact ⟨rfl, Only.refl _ _⟩
    · go_enter Tryd.func16, Tryd.ntmps16
      go_wp2_with fail
      refine (reaches_any b k user sum).mono ?_
      rintro r w' ⟨rfl, rfl⟩
      rw [cr]
      go_wp2_with fail
      refine (lets_any hT b k mxr).mono ?_
      rintro r w' ⟨rfl, hk⟩
      go_wp2
      go_ret
      exact ⟨by simp, hk⟩
theorem dg_lib10 : ∀ (f n : Nat), n < 10 ^ (f + 1) → dgF (f + 1) n = Lib.decDigits n
  | 0, n, h => by
    rw [Lib.decDigits, dif_pos (by simpa using h)]
    unfold dgF
    rw [if_pos (by simpa using h)]
  | f + 1, n, h => by
    unfold dgF
    rw [Lib.decDigits]
    by_cases hn : n < 10
    · rw [if_pos hn, dif_pos hn]
    · rw [if_neg hn, dif_neg hn, dg_lib10 f (n / 10) (by rw [Nat.pow_succ] at h; omega)]
theorem itoa_dg10 {n : Int} (h0 : -9223372036854775808 ≤ n) (h1 : n ≤ 9223372036854775807) : Lib.itoa n = dgI n := by
  unfold Lib.itoa dgI
  split
  · rw [dg_lib10 19 (-n).toNat (by omega), show n.natAbs = (-n).toNat by omega]
  · rw [dg_lib10 19 n.toNat (by omega)]
theorem push_all : ∀ (l : List UInt8) (s : ByteArray), (l.map fun b => (b.toNat : Int)).foldl (fun r n => r.push (UInt8.ofNat n.toNat)) s = s ++ bs l
  | [], s => by apply ByteArray.ext; simp [bs]
  | b :: l, s => by
    rw [List.map_cons, List.foldl_cons, push_all l]
    apply ByteArray.ext
    simp [bs]
/-- The bytes of a row of one's own, as a text. -/
theorem conv_row {w : World} {B n : Nat} {v : Value} {l : List UInt8} (h : w.ownsRow B 5 1 v n (Lib.byteCells l)) :
    (convert 38 9 v).run Tryd.prog w = .ok (.string (bs l)) w := by
  have hlen : l.length = n := by have := h.1; simpa [Lib.byteCells] using this
  rcases h.2 with ⟨rfl, rfl⟩ | ⟨g, cap, cur, rfl, _, hg, hn, _, hs, ht⟩
  · rw [run_convert_bytes_string _ 38 9 5 _ _ _ (by kernel_rfl) (by kernel_rfl) (by kernel_rfl)]
    obtain rfl : l = [] := List.eq_nil_of_length_eq_zero hlen
    rfl
  · rw [run_convert_bytes_string _ 38 9 5 _ _ _ (by kernel_rfl) (by kernel_rfl) (by kernel_rfl)]
    have he : Lib.byteCells l = (l.map fun b => (b.toNat : Int)).map (Value.int .u8) := by simp [Lib.byteCells]
    have hl : (Lib.byteCells l).length = n := by rw [Lib.byteCells_length, hlen]
    have hc := h.cells (g := g) rfl
    rw [he] at hc hl
    have hr := run_loadCells_list (P := Tryd.prog) w ⟨g, 0, none⟩ ((l.map fun b => (b.toNat : Int)).map (Value.int .u8)) hc
    rw [hl] at hr
    rw [run_bytesToString _ _ _ _ _ hr, push_all]
    congr 2
/-- The letters' rows: a bit's place and its letter. -/
def posN (j : Nat) : Nat := if j < 5 then j else j + 1
def lB (j : Nat) : Int := intOf (leL.getD (2 * j) (.int .u64 0))
def lC (j : Nat) : Int := intOf (leL.getD (2 * j + 1) (.int .u8 0))
theorem le_len : leL.length = 14 := by decide +kernel
theorem sizeLe : (Tryd.prog.info? 40).map (·.size) = some leL.length := by rw [le_len]; kernel_rfl
theorem le_row0 (w : World) : (Instr.index 40 (.agg leL.toArray) (.int .i64 0)).run Tryd.prog w = .ok (.agg #[.int .u64 (lB 0), .int .u8 (lC 0)]) w := by kernel_rfl
theorem le_row1 (w : World) : (Instr.index 40 (.agg leL.toArray) (.int .i64 1)).run Tryd.prog w = .ok (.agg #[.int .u64 (lB 1), .int .u8 (lC 1)]) w := by kernel_rfl
theorem le_row2 (w : World) : (Instr.index 40 (.agg leL.toArray) (.int .i64 2)).run Tryd.prog w = .ok (.agg #[.int .u64 (lB 2), .int .u8 (lC 2)]) w := by kernel_rfl
theorem le_row3 (w : World) : (Instr.index 40 (.agg leL.toArray) (.int .i64 3)).run Tryd.prog w = .ok (.agg #[.int .u64 (lB 3), .int .u8 (lC 3)]) w := by kernel_rfl
theorem le_row4 (w : World) : (Instr.index 40 (.agg leL.toArray) (.int .i64 4)).run Tryd.prog w = .ok (.agg #[.int .u64 (lB 4), .int .u8 (lC 4)]) w := by kernel_rfl
theorem le_row5 (w : World) : (Instr.index 40 (.agg leL.toArray) (.int .i64 5)).run Tryd.prog w = .ok (.agg #[.int .u64 (lB 5), .int .u8 (lC 5)]) w := by kernel_rfl
theorem le_row6 (w : World) : (Instr.index 40 (.agg leL.toArray) (.int .i64 6)).run Tryd.prog w = .ok (.agg #[.int .u64 (lB 6), .int .u8 (lC 6)]) w := by kernel_rfl
theorem seven_of {j : Nat} (h : j < 7) : j = 0 ∨ j = 1 ∨ j = 2 ∨ j = 3 ∨ j = 4 ∨ j = 5 ∨ j = 6 := by omega
theorem le_row (j : Nat) (hj : j < 7) (w : World) : (Instr.index 40 (.agg leL.toArray) (.int .i64 (j : Int))).run Tryd.prog w = .ok (.agg #[.int .u64 (lB j), .int .u8 (lC j)]) w := by
  rcases seven_of hj with rfl | rfl | rfl | rfl | rfl | rfl | rfl
  · exact le_row0 w
  · exact le_row1 w
  · exact le_row2 w
  · exact le_row3 w
  · exact le_row4 w
  · exact le_row5 w
  · exact le_row6 w
theorem lB_is {j : Nat} (hj : j < 7) : lB j = ((2 ^ posN j : Nat) : Int) := by
  rcases seven_of hj with rfl | rfl | rfl | rfl | rfl | rfl | rfl <;> decide +kernel
theorem lC_is {j : Nat} (hj : j < 7) : lC j = ((letL.getD (posN j) 0).toNat : Int) := by
  rcases seven_of hj with rfl | rfl | rfl | rfl | rfl | rfl | rfl <;> decide +kernel
def txtR (e : Int) : Nat → List UInt8
  | 0 => []
  | j + 1 => txtR e j ++ (bif gb e (posN j) then [letL.getD (posN j) 0] else [])
theorem txtR_is (e : Int) : txtR e 7 = txtK e 8 := by
  simp [txtR, txtK, posN]
theorem txtR_len (e : Int) : ∀ k, (txtR e k).length ≤ k
  | 0 => by simp [txtR]
  | k + 1 => by
    have h := txtR_len e k
    unfold txtR
    rw [List.length_append]
    cases gb e (posN k) <;> simp <;> omega
theorem info_u8 : (Tryd.prog.info? 5).map (fun i => (i.zero, i.size, i.bytes)) = some (some (.int .u8 0), 1, 1) := by kernel_rfl
theorem info_parts8 {P : Program} {e : TypeId} {z : Value} {s b : Nat} (h : (P.info? e).map (fun i => (i.zero, i.size, i.bytes)) = some (some z, s, b)) : ∃ i, P.info? e = some i ∧ i.zero = some z ∧ i.size = s ∧ i.bytes = b := by
  cases hi : P.info? e with
  | none => rw [hi] at h; cases h
  | some i =>
    rw [hi] at h
    simp only [Option.map_some, Option.some.injEq, Prod.mk.injEq] at h
    exact ⟨i, rfl, h.1, h.2.1, h.2.2⟩
theorem Only.grownBy {a b c : World} (h : Kept a b) {row : Option Nat} (g : b.grownBy c row) (hs : ∀ i, row = some i → a.heap.size ≤ i) : Kept a c :=
  ⟨g.os.trans h.os, g.output.trans h.out, Nat.le_trans h.size g.size, fun i hi _ => (g.block i (Nat.lt_of_lt_of_le hi h.size) (fun e => by have := hs i e.symm; omega)).trans (h.same i hi id)⟩
theorem Kept.below {a b c : World} (h : Kept a b) (g : Below a.heap.size b c) : Kept a c :=
  ⟨g.os.trans h.os, g.output.trans h.out, Nat.le_trans h.size g.size, fun i hi _ => (g.block i hi).trans (h.same i hi id)⟩
end
end Go.Proofs.YtlgmnnfgekmibaaDoor
