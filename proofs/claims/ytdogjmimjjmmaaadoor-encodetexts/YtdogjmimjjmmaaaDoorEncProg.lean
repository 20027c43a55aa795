/-
  What package encode's Program answers: its loop, walked for every row of instructions.
-/
import Derived.Test.YtdogjmimjjmmaaaDoorEncE
import Derived.Test.YtdogjmimjjmmaaaDoorEncBytes
import Derived.Test.YtdogjmimjjmmaaaDoorEncStr
import Derived.Lib.AppendStr
import Derived.OwnWalk
namespace Go.Proofs.YtdogjmimjjmmaaaDoor
open Go.RowKit
structure Ins where
  op : Int
  rd : Int
  rs1 : Int
  rs2 : Int
  imm : Int
  csr : Int
def Ins.is (x : Ins) : Bool := isB x.op x.rd x.rs1 x.rs2 x.imm x.csr
def Ins.word (x : Ins) : Int := eW x.op x.rd x.rs1 x.rs2 x.imm x.csr
structure SixAt (w : World) (b p : Nat) (x : Ins) : Prop where
  c0 : w.cell? ⟨b, p, none⟩ = some (.int .i64 x.op)
  c1 : w.cell? ⟨b, p + 1, none⟩ = some (.int .i64 x.rd)
  c2 : w.cell? ⟨b, p + 2, none⟩ = some (.int .i64 x.rs1)
  c3 : w.cell? ⟨b, p + 3, none⟩ = some (.int .i64 x.rs2)
  c4 : w.cell? ⟨b, p + 4, none⟩ = some (.int .i64 x.imm)
  c5 : w.cell? ⟨b, p + 5, none⟩ = some (.int .i64 x.csr)
/-- The instructions lie in the block, one behind the other. -/
def Lies (w : World) (b o : Nat) (L : List Ins) : Prop := ∀ j x, L[j]? = some x → SixAt w b (o + j * 6) x
theorem SixAt.more {w w' : World} {b p : Nat} {x : Ins} (h : SixAt w b p x) (g : More w w') : SixAt w' b p x := ⟨g.cell h.c0, g.cell h.c1, g.cell h.c2, g.cell h.c3, g.cell h.c4, g.cell h.c5⟩
theorem Lies.more {w w' : World} {b o : Nat} {L : List Ins} (h : Lies w b o L) (g : More w w') : Lies w' b o L := fun j x hx => (h j x hx).more g
/-- The bytes of the words, one behind the other. -/
def progL (L : List Ins) : List UInt8 := L.flatMap fun x => b4 x.word
def cellsL (l : List UInt8) : List Value := l.map fun b => Value.int .u8 (b.toNat : Int)
theorem progL_len (L : List Ins) : (progL L).length = L.length * 4 := by
  induction L with
  | nil => rfl
  | cons x L ih => simp [progL, b4] at *; omega
theorem progL_snoc (L : List Ins) (x : Ins) : progL (L ++ [x]) = progL L ++ b4 x.word := by simp [progL]
theorem b4_bd (x : Ins) : (bs (b4 x.word)).size = 4 := rfl
theorem conv_text (w : World) (B k : Nat) (s : Value) (l : List UInt8) (h : w.ownsRow B 5 1 s k (cellsL l)) :
    (convert 64 9 s).run Tryd.prog w = .ok (.string (bs l)) w := by
  have e : strOf (l.map fun b => (b.toNat : Int)) = bs l := by
    unfold strOf bs
    have f : ∀ (l : List UInt8) (a : ByteArray), (l.map fun b => (b.toNat : Int)).foldl (fun r n => r.push (UInt8.ofNat n.toNat)) a = ⟨a.data ++ l.toArray⟩ := by
      intro l
      induction l with
      | nil => intro a; simp
      | cons x l ih =>
        intro a
        rw [List.map_cons, List.foldl_cons, ih]
        simp [ByteArray.push]
    rw [f]
    simp
  rw [← e]
  exact conv_own w B k s _ (by rw [List.map_map]; exact h)
theorem word_bd (x : Ins) : 0 ≤ x.word ∧ x.word < 4294967296 := by
  unfold Ins.word
  cases h : isB x.op x.rd x.rs1 x.rs2 x.imm x.csr
  · rw [(e_no h).1]; decide
  · rw [(e_yes h).1, ← enc_math h, IntKind.wrap_u32]
    omega
theorem enc_ins (x : Ins) (h : x.is = true) (w : World) (hT : Tab4 w) :
    Calls Tryd.prog 10 #[.agg #[.int .i64 x.op, .int .i64 x.rd, .int .i64 x.rs1, .int .i64 x.rs2, .int .i64 x.imm, .int .i64 x.csr]] w fun e w' => e = .returned (.tuple #[.int .u32 x.word, .int .i64 0]) ∧ More w w' := by
  unfold Ins.word
  rw [(e_yes h).1]
  exact (enc4_yes _ _ _ _ _ _ h w hT).mono fun _ _ k => ⟨k.1, Grown.more k.2⟩
theorem enc_out (x : Ins) (h : x.is = false) (w : World) (hT : Tab4 w) :
    Calls Tryd.prog 10 #[.agg #[.int .i64 x.op, .int .i64 x.rd, .int .i64 x.rs1, .int .i64 x.rs2, .int .i64 x.imm, .int .i64 x.csr]] w fun e w' => e = .returned (.tuple #[.int .u32 0, .int .i64 40]) ∧ More w w' :=
  (enc4_no _ _ _ _ _ _ h w hT).mono fun _ _ k => ⟨k.1, Grown.more k.2⟩
theorem take_snoc {L : List Ins} {k : Nat} {x : Ins} (hx : L[k]? = some x) : L.take (k + 1) = L.take k ++ [x] := by
  rw [List.take_add_one, hx]; rfl
set_option maxRecDepth 100000 in
set_option maxHeartbeats 2000000 in
theorem prog_ok (L : List Ins) (hL : L.length ≤ 1000) (hall : ∀ (j : Nat) x, L[j]? = some x → x.is = true) (b o cap : Nat) (w : World) (hT : Tab4 w) (hC : Lies w b o L) :
    Calls Tryd.prog 15 #[.slice (some ⟨b, o, none⟩) L.length cap] w fun e w' => e = .returned (.tuple #[.string (bs (progL L)), .int .i64 0]) ∧ More w w' := by
  obtain ⟨i0, hi, hz0, hz1, hz2⟩ := info_parts info5
  go_enter Tryd.func15, Tryd.ntmps15
  go_wp2
  go_loopw [4, 11] (fun s i wr => ∃ k : Nat, k ≤ L.length ∧ i = .int .i64 k ∧ wr.ownsRow w.heap.size 5 1 s (k * 4) (cellsL (progL (L.take k))) ∧ More w wr) (fun _ i _ => L.length - (intOf i).toNat)
  case atStart => exact ⟨0, Nat.zero_le _, rfl, World.ownsRow_nil _ _ _ _, More.refl _⟩
  case round =>
    obtain ⟨k, hk, rfl, hown, hg⟩ := hrel
    by_cases hlt : k < L.length
    · obtain ⟨x, hx⟩ : ∃ x, L[k]? = some x := ⟨_, List.getElem?_eq_getElem (by omega)⟩
      have hlt' : (k : Int) < (L.length : Int) := by omega
      have hk0 : (0 : Int) ≤ (k : Int) := by omega
      obtain ⟨c0, c1, c2, c3, c4, c5⟩ := (hC k x hx).more hg
      have hE := enc_ins x (hall k x hx) _ ((hT.grown hg).grown ((More.refl wr).alloc #[.int .i64 x.op, .int .i64 x.rd, .int .i64 x.rs1, .int .i64 x.rs2, .int .i64 x.imm, .int .i64 x.csr] 23))
      have hb := word_bd x
      have hw : IntKind.u64.wrap x.word = x.word := wraps_u64 _ (by omega) (by omega)
      clear hb
      have ht := take_snoc hx
      have hgs := hg.2
      go_wp2_with (first | (go_at_call 10; refine hE.mono ?_; rintro e w1 ⟨rfl, hg1⟩) | (go_at_call 34; refine (bytes4_any _ _).mono ?_; rintro e w2 ⟨rfl, hg2⟩) | (at_builtin; refine Lib.wpList_append_own_string _ rfl _ _ 64 9 rfl w.heap.size 5 i0 Tryd.underlying64 Tryd.underlying9 hi hz0 hz1 hz2 _ _ _ rfl (row_more (hown.alloc _) (More.trans' hg1 hg2)) (bs (b4 x.word)) rfl (by rw [b4_bd]; unfold maxLen; omega) (by rw [b4_bd]; omega) (by have := (More.trans' (hg.alloc #[.int .i64 x.op, .int .i64 x.rd, .int .i64 x.rs1, .int .i64 x.rs2, .int .i64 x.imm, .int .i64 x.csr] 23) (More.trans' hg1 hg2)).2; omega) ?_; intro v' w3 hown' hgrow _))
      have hg3 : More w w3 := (More.trans' (hg.alloc _ _) (More.trans' hg1 hg2)).grownBy hgrow (fun q hq => (hown.lt q hq).1)
      have hown3 : w3.ownsRow w.heap.size 5 1 v' ((k + 1) * 4) (cellsL (progL (L.take (k + 1)))) := by
        rw [ht, progL_snoc, show (k + 1) * 4 = k * 4 + 4 by omega, cellsL, List.map_append]
        exact hown'
      clear hown' hgrow hg1 hg2 hE ht
      go_roundw
      case rel => exact ⟨k + 1, by omega, by simp, hown3, hg3⟩
      case measure => simp [intOf]; omega
    · have hlt' : ¬ (k : Int) < (L.length : Int) := by omega
      have hcv := conv_text _ _ _ _ _ hown
      rw [List.take_of_length_le (by omega)] at hcv
      go_wp2
      go_ret2
      exact ⟨rfl, hg⟩
set_option maxRecDepth 100000 in
set_option maxHeartbeats 2000000 in
theorem prog_bad (L : List Ins) (hL : L.length ≤ 1000) (m : Nat) (y : Ins) (hy : L[m]? = some y) (hno : y.is = false) (hall : ∀ (j : Nat) x, L[j]? = some x → j < m → x.is = true) (b o cap : Nat) (w : World) (hT : Tab4 w) (hC : Lies w b o L) :
    Calls Tryd.prog 15 #[.slice (some ⟨b, o, none⟩) L.length cap] w fun e w' => e = .returned (.tuple #[.string (bs []), .int .i64 40]) ∧ More w w' := by
  have hm : m < L.length := (List.getElem?_eq_some_iff.1 hy).1
  obtain ⟨i0, hi, hz0, hz1, hz2⟩ := info_parts info5
  go_enter Tryd.func15, Tryd.ntmps15
  go_wp2
  go_loopw [4, 11] (fun s i wr => ∃ k : Nat, k ≤ m ∧ i = .int .i64 k ∧ wr.ownsRow w.heap.size 5 1 s (k * 4) (cellsL (progL (L.take k))) ∧ More w wr) (fun _ i _ => m - (intOf i).toNat)
  case atStart => exact ⟨0, Nat.zero_le _, rfl, World.ownsRow_nil _ _ _ _, More.refl _⟩
  case round =>
    obtain ⟨k, hk, rfl, hown, hg⟩ := hrel
    by_cases hlt : k < m
    · obtain ⟨x, hx⟩ : ∃ x, L[k]? = some x := ⟨_, List.getElem?_eq_getElem (by omega)⟩
      have hlt' : (k : Int) < (L.length : Int) := by omega
      have hk0 : (0 : Int) ≤ (k : Int) := by omega
      obtain ⟨c0, c1, c2, c3, c4, c5⟩ := (hC k x hx).more hg
      have hE := enc_ins x (hall k x hx hlt) _ ((hT.grown hg).grown ((More.refl wr).alloc #[.int .i64 x.op, .int .i64 x.rd, .int .i64 x.rs1, .int .i64 x.rs2, .int .i64 x.imm, .int .i64 x.csr] 23))
      have hb := word_bd x
      have hw : IntKind.u64.wrap x.word = x.word := wraps_u64 _ (by omega) (by omega)
      clear hb
      have ht := take_snoc hx
      have hgs := hg.2
      go_wp2_with (first | (go_at_call 10; refine hE.mono ?_; rintro e w1 ⟨rfl, hg1⟩) | (go_at_call 34; refine (bytes4_any _ _).mono ?_; rintro e w2 ⟨rfl, hg2⟩) | (at_builtin; refine Lib.wpList_append_own_string _ rfl _ _ 64 9 rfl w.heap.size 5 i0 Tryd.underlying64 Tryd.underlying9 hi hz0 hz1 hz2 _ _ _ rfl (row_more (hown.alloc _) (More.trans' hg1 hg2)) (bs (b4 x.word)) rfl (by rw [b4_bd]; unfold maxLen; omega) (by rw [b4_bd]; omega) (by have := (More.trans' (hg.alloc #[.int .i64 x.op, .int .i64 x.rd, .int .i64 x.rs1, .int .i64 x.rs2, .int .i64 x.imm, .int .i64 x.csr] 23) (More.trans' hg1 hg2)).2; omega) ?_; intro v' w3 hown' hgrow _))
      have hg3 : More w w3 := (More.trans' (hg.alloc _ _) (More.trans' hg1 hg2)).grownBy hgrow (fun q hq => (hown.lt q hq).1)
      have hown3 : w3.ownsRow w.heap.size 5 1 v' ((k + 1) * 4) (cellsL (progL (L.take (k + 1)))) := by
        rw [ht, progL_snoc, show (k + 1) * 4 = k * 4 + 4 by omega, cellsL, List.map_append]
        exact hown'
      clear hown' hgrow hg1 hg2 hE ht
      go_roundw
      case rel => exact ⟨k + 1, by omega, by simp, hown3, hg3⟩
      case measure => simp [intOf]; omega
    · obtain rfl : k = m := by omega
      have hlt' : (k : Int) < (L.length : Int) := by omega
      have hk0 : (0 : Int) ≤ (k : Int) := by omega
      obtain ⟨c0, c1, c2, c3, c4, c5⟩ := (hC k y hy).more hg
      have hE := enc_out y hno _ ((hT.grown hg).grown ((More.refl wr).alloc #[.int .i64 y.op, .int .i64 y.rd, .int .i64 y.rs1, .int .i64 y.rs2, .int .i64 y.imm, .int .i64 y.csr] 23))
      go_wp2_with (go_at_call 10; refine hE.mono ?_; rintro e w1 ⟨rfl, hg1⟩)
      go_ret2
      exact ⟨rfl, More.trans' (hg.alloc _ _) hg1⟩
end Go.Proofs.YtdogjmimjjmmaaaDoor
