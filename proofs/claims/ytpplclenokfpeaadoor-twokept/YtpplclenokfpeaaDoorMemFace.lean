/-
  The calls of package mem, handed on from one to the next: one memory that the call itself made.
-/
import Derived.Test.YtpplclenokfpeaaDoorMemCopy
import Derived.Deep.RegionHeld3
import Derived.Test.YtpplclenokfpeaaDoorRefWrite
namespace Go.Proofs.YtpplclenokfpeaaDoor
open Go.RowKit
abbrev ProgAt (w : World) (p q : Nat) (B : Nat → Int) : Prop := MemAt 97 5 w p q B
theorem mnew_any (w : World) :
    Calls Tryd.prog 20 #[] w fun e w' => ∃ p q, e = .returned (.pointer (some ⟨p, 0, none⟩)) ∧ ProgAt w' p q (fun _ => 0) ∧ w.heap.size ≤ p ∧ w.heap.size ≤ q ∧ Kept w w' := by
  have hmk := make_mem
  go_enter Tryd.func20, Tryd.ntmps20
  go_wp2
  go_ret
  exact ⟨_, _, rfl, mem_new _ w, by omega, by omega, ((Only.refl _ w).alloc _).alloc _⟩
/-- Whether a place is a multiple of a size that there is. -/
def algB (a n : Int) : Bool := decide ((n = 1 ∨ n = 2 ∨ n = 4 ∨ n = 8) ∧ a % n = 0)
/-- Whether n bytes from a place on are all there. -/
def fitsB' (a n : Int) : Bool := decide (a ≤ 32768 ∧ n ≤ 32768 - a)
set_option maxHeartbeats 2000000 in
theorem aligned_any (a n : Int) (ha : U a) (w : World) :
    Calls Tryd.prog 65 #[.int .u64 a, .int .i64 n] w fun e w' => e = .returned (.bool (algB a n)) ∧ w' = w := by
  have h0 := ha.1
  clear ha
  by_cases hn : n = 1 ∨ n = 2 ∨ n = 4 ∨ n = 8
  · rcases hn with rfl | rfl | rfl | rfl
    all_goals
      go_enter Tryd.func65, Tryd.ntmps65
      go_wp2
      all_goals
        go_ret
        refine ⟨ret_bool ?_, rfl⟩
        unfold algB
        apply Bool.eq_iff_iff.2
        simp
  · have e : algB a n = false := decide_eq_false fun h => hn h.1
    rw [e]
    have n1 : (n == 1) = false := beq_eq_false_iff_ne.2 (by omega)
    have n2 : (n == 2) = false := beq_eq_false_iff_ne.2 (by omega)
    have n4 : (n == 4) = false := beq_eq_false_iff_ne.2 (by omega)
    have n8 : (n == 8) = false := beq_eq_false_iff_ne.2 (by omega)
    clear hn
    go_enter Tryd.func65, Tryd.ntmps65
    go_wp2
    go_ret
    exact ⟨rfl, rfl⟩
set_option maxHeartbeats 2000000 in
theorem fits_any (a n : Int) (ha : U a) (w : World) (p q : Nat) (B : Nat → Int) (hm : ProgAt w p q B) :
    Calls Tryd.prog 66 #[.pointer (some ⟨p, 0, none⟩), .int .u64 a, .int .u64 n] w fun e w' => e = .returned (.bool (fitsB' a n)) ∧ w' = w := by
  have hc := hm.cell
  have h0 := ha.1
  have h9 := ha.2
  clear hm ha
  by_cases h : a ≤ 32768
  · by_cases h2 : n ≤ 32768 - a
    · have e : fitsB' a n = true := decide_eq_true ⟨h, h2⟩
      rw [e]
      go_enter Tryd.func66, Tryd.ntmps66
      go_wp2
      go_ret
      exact ⟨ret_bool (by simp), rfl⟩
    · have e : fitsB' a n = false := decide_eq_false fun h => h2 h.2
      rw [e]
      go_enter Tryd.func66, Tryd.ntmps66
      go_wp2
      go_ret
      exact ⟨ret_bool (by simp), rfl⟩
  · have e : fitsB' a n = false := decide_eq_false fun h' => h h'.1
    rw [e]
    go_enter Tryd.func66, Tryd.ntmps66
    go_wp2
    go_ret
    exact ⟨rfl, rfl⟩
theorem code_off {a n : Int} (h : algB a n = false) : codeI a n = 61 := by
  have := of_decide_eq_false h
  apply code_61
  by_cases hn : n = 1 ∨ n = 2 ∨ n = 4 ∨ n = 8
  · right; exact fun e => this ⟨hn, e⟩
  · left; exact hn
theorem code_past {a n : Int} (ha : U a) (h : algB a n = true) (h2 : fitsB' a n = false) : codeI a n = 60 := by
  have h1 := of_decide_eq_true h
  have h3 := of_decide_eq_false h2
  have h0 := ha.1
  unfold codeI
  obtain ⟨hn, hm⟩ := h1
  rcases hn with rfl | rfl | rfl | rfl <;> rw [if_neg (by omega), if_pos (by omega)]
theorem code_yes {a n : Int} (ha : U a) (h : algB a n = true) (h2 : fitsB' a n = true) : codeI a n = 0 := by
  have h1 := of_decide_eq_true h
  have h3 := of_decide_eq_true h2
  have h0 := ha.1
  unfold codeI
  obtain ⟨hn, hm⟩ := h1
  rcases hn with rfl | rfl | rfl | rfl <;> rw [if_neg (by omega), if_neg (by omega)]
set_option maxHeartbeats 2000000 in
theorem refuses_any (a n : Int) (ha : U a) (w : World) (p q : Nat) (B : Nat → Int) (hm : ProgAt w p q B) :
    Calls Tryd.prog 46 #[.pointer (some ⟨p, 0, none⟩), .int .u64 a, .int .i64 n] w fun e w' => e = .returned (.int .i64 (codeI a n)) ∧ w' = w := by
  by_cases hg : algB a n = true
  · have hn : IntKind.u64.wrap n = n := by
      have := (of_decide_eq_true hg).1
      rcases this with rfl | rfl | rfl | rfl <;> rfl
    by_cases hf : fitsB' a n = true
    · rw [code_yes ha hg hf]
      go_enter Tryd.func46, Tryd.ntmps46
      go_wp2_with first | (go_at_call 65; refine (aligned_any _ _ ha _).mono ?_; rintro e w' ⟨rfl, rfl⟩) | (go_at_call 66; refine (fits_any _ _ ha _ p q B hm).mono ?_; rintro e w' ⟨rfl, rfl⟩)
      go_ret
      exact ⟨rfl, rfl⟩
    · have hf' : fitsB' a n = false := by simpa using hf
      rw [code_past ha hg hf']
      go_enter Tryd.func46, Tryd.ntmps46
      go_wp2_with first | (go_at_call 65; refine (aligned_any _ _ ha _).mono ?_; rintro e w' ⟨rfl, rfl⟩) | (go_at_call 66; refine (fits_any _ _ ha _ p q B hm).mono ?_; rintro e w' ⟨rfl, rfl⟩)
      go_ret
      exact ⟨rfl, rfl⟩
  · have hg' : algB a n = false := by simpa using hg
    rw [code_off hg']
    go_enter Tryd.func46, Tryd.ntmps46
    go_wp2_with (go_at_call 65; refine (aligned_any _ _ ha _).mono ?_; rintro e w' ⟨rfl, rfl⟩)
    go_ret
    exact ⟨rfl, rfl⟩
set_option maxHeartbeats 2000000 in
theorem mread_no (a n : Int) (ha : U a) (h : ¬ codeI a n = 0) (w : World) (p q : Nat) (B : Nat → Int) (hm : ProgAt w p q B) :
    Calls Tryd.prog 70 #[.pointer (some ⟨p, 0, none⟩), .int .u64 a, .int .i64 n] w fun e w' => e = .returned (.tuple #[.int .u64 0, .int .i64 (codeI a n)]) ∧ Kept w w' := by
  have hne : (codeI a n != 0) = true := by simpa using h
  go_enter Tryd.func70, Tryd.ntmps70
  go_wp2_with (go_at_call 46; refine (refuses_any _ _ ha _ p q B hm).mono ?_; rintro e w' ⟨rfl, rfl⟩)
  go_ret2
  exact ⟨rfl, Only.refl _ _⟩
set_option maxHeartbeats 2000000 in
theorem mread_yes (a n : Nat) (hn : n = 1 ∨ n = 2 ∨ n = 4 ∨ n = 8) (h : a + n ≤ 32768) (hcode : codeI (a : Int) (n : Int) = 0) (w : World) (p q : Nat) (B : Nat → Int) (hm : ProgAt w p q B) :
    Calls Tryd.prog 70 #[.pointer (some ⟨p, 0, none⟩), .int .u64 (a : Int), .int .i64 (n : Int)] w fun e w' => e = .returned (.tuple #[.int .u64 (rdF B a n), .int .i64 0]) ∧ Kept w w' := by
  have hc := hm.cell
  have hv := fun c => conv_mem hm a n c h
  have hg := get_text (B := B) hn h hm.byte
  have hl : a + n - a = n := by omega
  go_enter Tryd.func70, Tryd.ntmps70
  go_wp2_with fail
  refine (refuses_any _ _ (by unfold U; omega) _ p q B hm).mono ?_
  rintro e w' ⟨rfl, rfl⟩
  rw [hcode]
  go_wp2_with (go_at_call 74; refine (get_any _ _ _ (by decide) _).mono ?_; rintro e w1 ⟨rfl, hg1⟩)
  go_ret2
  exact ⟨rfl, Only.of_grown hg1⟩
/-- What is read: the bytes, or 0 where there are none. -/
def rdZ (B : Nat → Int) (a n : Int) : Int := if codeI a n = 0 then rdF B a.toNat n.toNat else 0
theorem code_zero {a n : Int} (h : codeI a n = 0) : (n = 1 ∨ n = 2 ∨ n = 4 ∨ n = 8) ∧ a % n = 0 ∧ a < 32768 := by
  unfold codeI at h
  split at h
  · omega
  · rename_i h1
    split at h
    · omega
    · refine ⟨Classical.byContradiction fun hn => h1 (.inl hn), Classical.byContradiction fun hn => h1 (.inr hn), by omega⟩
theorem mread_any (a n : Int) (ha : U a) (w : World) (p q : Nat) (B : Nat → Int) (hm : ProgAt w p q B) :
    Calls Tryd.prog 70 #[.pointer (some ⟨p, 0, none⟩), .int .u64 a, .int .i64 n] w fun e w' => e = .returned (.tuple #[.int .u64 (rdZ B a n), .int .i64 (codeI a n)]) ∧ Kept w w' := by
  unfold rdZ
  by_cases h : codeI a n = 0
  · obtain ⟨h1, h2, h3⟩ := code_zero h
    have h0 := ha.1
    obtain ⟨A, rfl⟩ := Int.eq_ofNat_of_zero_le h0
    obtain ⟨M, rfl⟩ := Int.eq_ofNat_of_zero_le (show 0 ≤ n by omega)
    have hfit : A + M ≤ 32768 := by rcases h1 with e | e | e | e <;> rw [e] at h2 <;> omega
    rw [if_pos h, h]
    exact mread_yes A M (by omega) hfit h w p q B hm
  · rw [if_neg h]; exact mread_no a n ha h w p q B hm
set_option maxHeartbeats 2000000 in
theorem mwrite_no (a n v : Int) (ha : U a) (h : ¬ codeI a n = 0) (w : World) (p q : Nat) (B : Nat → Int) (hm : ProgAt w p q B) :
    Calls Tryd.prog 21 #[.pointer (some ⟨p, 0, none⟩), .int .u64 a, .int .i64 n, .int .u64 v] w fun e w' => e = .returned (.int .i64 (codeI a n)) ∧ Kept w w' := by
  have hne : (codeI a n != 0) = true := by simpa using h
  go_enter Tryd.func21, Tryd.ntmps21
  go_wp2_with (go_at_call 46; refine (refuses_any _ _ ha _ p q B hm).mono ?_; rintro e w' ⟨rfl, rfl⟩)
  go_ret
  exact ⟨rfl, Only.refl _ _⟩
end Go.Proofs.YtpplclenokfpeaaDoor
namespace Go.Proofs.YtpplclenokfpeaaDoor
open Go.RowKit
set_option maxRecDepth 10000 in
set_option maxHeartbeats 2000000 in
theorem mwrite_yes (a n : Nat) (v : Int) (hn : n = 1 ∨ n = 2 ∨ n = 4 ∨ n = 8) (h : a + n ≤ 32768) (hcode : codeI (a : Int) (n : Int) = 0) (w : World) (p q : Nat) (B : Nat → Int) (hm : ProgAt w p q B) :
    Calls Tryd.prog 21 #[.pointer (some ⟨p, 0, none⟩), .int .u64 (a : Int), .int .i64 (n : Int), .int .u64 v] w fun e w' => e = .returned (.int .i64 0) ∧ ProgAt w' p q (wrF B a n v) ∧ Only (fun i => i = q) w w' := by
  have hc := hm.cell
  go_enter Tryd.func21, Tryd.ntmps21
  go_wp2_with fail
  refine (refuses_any _ _ (by unfold U; omega) _ p q B hm).mono ?_
  rintro e w' ⟨rfl, rfl⟩
  rw [hcode]
  go_wp2_with fail
  have hS0 : Only (fun i => i = q) w' w' := Only.refl _ _
  have hsz := bytes_size (n := n) (by omega) v
  have a0 : (0 : Int) ≤ (a : Int) := by omega
  have a1 : (a : Int) ≤ 32768 := by omega
  have hk0 : Only (fun i => i = q) w' w'.drew := (Only.refl _ _).drew
  have hc0 : w'.drew.cell? ⟨p, 0, none⟩ = some (.slice (some ⟨q, 0, none⟩) 32768 32768) := hc
  go_region_held3 (fun w2 => Only (fun i => i = q) w' w2 ∧ w2.cell? ⟨p, 0, none⟩ = some (.slice (some ⟨q, 0, none⟩) 32768 32768)) (exact ⟨by assumption, by assumption⟩) ((go_at_call 47; refine (bytes_any _ _ _).mono ?_; rintro e w1 ⟨rfl, hg1⟩; have hk1 : Only (fun i => i = q) w' w1 := Only.of_grown hg1; have hm1 := hm.kept (Only.of_grown hg1); have hc1 := hm1.cell; obtain ⟨R, hcp, hmR⟩ := copy_text hm1 a (32768 - a) (bytesI v (n : Int)) (by omega); have hk2 := hk1.setRow rfl R; have hc2 := hmR.cell))
  go_wp2
  go_ret
  exact ⟨rfl, hmR.congr fun i _ => lay_bytes (by omega) v i, hk2⟩
end Go.Proofs.YtpplclenokfpeaaDoor
namespace Go.Proofs.YtpplclenokfpeaaDoor
open Go.RowKit
theorem MemAt.drew {T E : TypeId} {w : World} {p q : Nat} {B : Nat → Int} (h : MemAt T E w p q B) : MemAt T E w.drew p q B := ⟨h.obj, h.row.drew, h.byte⟩
/-- Nothing copied. -/
theorem copy_none (ad : Option Addr) (c : Nat) (w : World) : (Builtin.copy_ #[56, 9] 3 #[.slice ad 0 c, .string ⟨#[]⟩]).run Tryd.prog w = .ok (goInt 0) w := by
  have hu : Tryd.prog.underlying 56 = some (.slice 5) := by kernel_rfl
  have hs : (Tryd.prog.info? 5).map (·.size) = some 1 := by kernel_rfl
  cases hq : Tryd.prog.info? 5 with
  | none => simp [hq] at hs
  | some i =>
    cases ad <;> simp [Builtin.copy_, run_underlying hu, Builtin.lenOf, Builtin.firstCells, sizeOf, typeInfo, hq, storeCells]
end Go.Proofs.YtpplclenokfpeaaDoor
namespace Go.Proofs.YtpplclenokfpeaaDoor
open Go.RowKit
/-- Whether two memories have the same bytes. -/
noncomputable def sameM (B C : Nat → Int) : Bool := @decide (∀ i, i < 32768 → B i = C i) (Classical.propDecidable _)
theorem text_congr {B C : Nat → Int} (a n : Nat) (h : ∀ j, j < n → B (a + j) = C (a + j)) : textF B a n = textF C a n := by
  unfold textF
  rw [List.map_congr_left fun j hj => h j (List.mem_range.1 hj)]
theorem text_same {B C : Nat → Int} (hb : ∀ i, i < 32768 → 0 ≤ B i ∧ B i < 256) (hc : ∀ i, i < 32768 → 0 ≤ C i ∧ C i < 256) : textF B 0 32768 = textF C 0 32768 ↔ ∀ i, i < 32768 → B i = C i := by
  constructor
  · intro h i hi
    have e : (textF B 0 32768).data.toList = (textF C 0 32768).data.toList := by rw [h]
    rw [text_list, text_list] at e
    have e2 := congrArg (fun l => l[i]?) e
    simp only [List.getElem?_map, List.getElem?_range hi, Option.map_some, Option.some.injEq, Nat.zero_add] at e2
    rw [← byte_back _ (hb i hi), ← byte_back _ (hc i hi), e2]
  · intro h
    exact text_congr 0 32768 fun j hj => by rw [Nat.zero_add]; exact h j hj
theorem str_beq (x y : ByteArray) : (x.toList == y.toList) = decide (x = y) := by
  rw [ByteArray.toList_eq, ByteArray.toList_eq]
  apply Bool.eq_iff_iff.2
  rw [beq_iff_eq, decide_eq_true_iff]
  constructor
  · intro h
    cases x; cases y
    congr 1
    exact Array.toList_inj.1 h
  · rintro rfl; rfl
theorem same_text {B C : Nat → Int} (hb : ∀ i, i < 32768 → 0 ≤ B i ∧ B i < 256) (hc : ∀ i, i < 32768 → 0 ≤ C i ∧ C i < 256) : ((textF B 0 32768).toList == (textF C 0 32768).toList) = sameM B C := by
  rw [str_beq]
  unfold sameM
  rw [decide_eq_decide]
  exact text_same hb hc
/-- New bytes, as a world of its own. -/
theorem make_new (w : World) : ∃ W0 : World, (∀ n : Int, n = 32768 → (Instr.makeSlice 56 (.int .i64 n) (.int .i64 n)).run Tryd.prog w = .ok (.slice (some ⟨w.heap.size, 0, none⟩) 32768 32768) W0) ∧
    Kept w W0 ∧ (∀ T, MemAt T 5 (W0.alloc (.cells #[.slice (some ⟨w.heap.size, 0, none⟩) 32768 32768] T)) W0.heap.size w.heap.size (fun _ => 0)) := by
  refine ⟨w.alloc (.cells zrow 5), ?_, (Only.refl _ w).alloc _, fun T => ?_⟩
  · rintro n rfl; exact make_mem w
  · rw [Go.Deep.nblk_alloc]; exact mem_new T w
end Go.Proofs.YtpplclenokfpeaaDoor
namespace Go.Proofs.YtpplclenokfpeaaDoor
open Go.RowKit
/-- The bytes behind a write, refused or not. -/
def wrZ (B : Nat → Int) (a n v : Int) : Nat → Int := if codeI a n = 0 then wrF B a.toNat n.toNat v else B
theorem code_fits {a n : Int} (h0 : 0 ≤ a) (h : codeI a n = 0) : ∃ A N : Nat, a = A ∧ n = N ∧ (N = 1 ∨ N = 2 ∨ N = 4 ∨ N = 8) ∧ A + N ≤ 32768 := by
  obtain ⟨h1, h2, h3⟩ := code_zero h
  obtain ⟨A, rfl⟩ := Int.eq_ofNat_of_zero_le h0
  obtain ⟨M, rfl⟩ := Int.eq_ofNat_of_zero_le (show 0 ≤ n by omega)
  exact ⟨A, M, rfl, rfl, by omega, by rcases h1 with e | e | e | e <;> rw [e] at h2 <;> omega⟩
theorem mwrite_any (a n v : Int) (ha : U a) (w : World) (p q : Nat) (B : Nat → Int) (hm : ProgAt w p q B) :
    Calls Tryd.prog 21 #[.pointer (some ⟨p, 0, none⟩), .int .u64 a, .int .i64 n, .int .u64 v] w fun e w' => e = .returned (.int .i64 (codeI a n)) ∧ ProgAt w' p q (wrZ B a n v) ∧ Only (fun i => i = q) w w' := by
  unfold wrZ
  by_cases h : codeI a n = 0
  · obtain ⟨A, N, rfl, rfl, h1, h2⟩ := code_fits ha.1 h
    rw [if_pos h, h]
    exact mwrite_yes A N v h1 h2 h w p q B hm
  · rw [if_neg h]
    exact (mwrite_no a n v ha h w p q B hm).mono fun _ _ hx => ⟨hx.1, hm.kept hx.2, hx.2.mono fun _ f => f.elim⟩
/-- The bytes behind a text laid, refused or not. -/
def layZ (B : Nat → Int) (a : Int) (s : ByteArray) : Nat → Int := if fitsB a s.size then layF B a.toNat s.data.toList else B
def layC (a : Int) (n : Nat) : Int := if fitsB a n then 0 else 60
/-- A memory that the call itself made; of what was there nothing has turned. -/
structure St (W w : World) (p q : Nat) (B : Nat → Int) : Prop where
  m : ProgAt w p q B
  k : Kept W w
  hp : W.heap.size ≤ p
  hq : W.heap.size ≤ q
theorem St.kept {W w w' : World} {p q : Nat} {B : Nat → Int} (h : St W w p q B) (g : Kept w w') : St W w' p q B := ⟨h.m.kept g, h.k.then g, h.hp, h.hq⟩
theorem new_from {W w : World} (h : Kept W w) :
    Calls Tryd.prog 20 #[] w fun e w' => ∃ p q, e = .returned (.pointer (some ⟨p, 0, none⟩)) ∧ St W w' p q (fun _ => 0) :=
  (mnew_any w).mono fun _ _ ⟨p, q, he, hm, h1, h2, hk⟩ => ⟨p, q, he, hm, h.then hk, Nat.le_trans h.size h1, Nat.le_trans h.size h2⟩
theorem read_from {W w : World} {p q : Nat} {B : Nat → Int} (h : St W w p q B) (a n : Int) (ha : U a) :
    Calls Tryd.prog 70 #[.pointer (some ⟨p, 0, none⟩), .int .u64 a, .int .i64 n] w fun e w' => e = .returned (.tuple #[.int .u64 (rdZ B a n), .int .i64 (codeI a n)]) ∧ St W w' p q B :=
  (mread_any a n ha w p q B h.m).mono fun _ _ hx => ⟨hx.1, h.kept hx.2⟩
theorem write_from {W w : World} {p q : Nat} {B : Nat → Int} (h : St W w p q B) (a n v : Int) (ha : U a) :
    Calls Tryd.prog 21 #[.pointer (some ⟨p, 0, none⟩), .int .u64 a, .int .i64 n, .int .u64 v] w fun e w' => e = .returned (.int .i64 (codeI a n)) ∧ St W w' p q (wrZ B a n v) :=
  (mwrite_any a n v ha w p q B h.m).mono fun _ _ hx => ⟨hx.1, hx.2.1, h.k.new hx.2.2 (fun i hi => by rw [hi]; exact h.hq), h.hp, h.hq⟩
theorem same_yes {B C : Nat → Int} (h : ∀ i, i < 32768 → B i = C i) : sameM B C = true := by unfold sameM; exact @decide_eq_true _ (_) h
theorem same_no {B C : Nat → Int} (i : Nat) (hi : i < 32768) (h : B i ≠ C i) : sameM B C = false := by unfold sameM; exact @decide_eq_false _ (_) (fun e => h (e i hi))
theorem text_size (B : Nat → Int) (a n : Nat) : (textF B a n).size = n := by
  have e : (textF B a n).data.toList.length = n := by rw [text_list]; simp
  simpa using e
end Go.Proofs.YtpplclenokfpeaaDoor
