/-
  What the document's Decode and package decode's answer of every word, in the same terms.
-/
import Derived.Test.YtdogjmimjjmmaaaDoorDecTab
import Derived.Test.YtdogjmimjjmmaaaDoorDecGuess
import Derived.Test.YtdogjmimjjmmaaaDoorIsIn
import Derived.Test.YtdogjmimjjmmaaaDoorSame
namespace Go.Proofs.YtdogjmimjjmmaaaDoor
open Go.RowKit
structure Three (w : World) (b : Nat) (x y z : Value) : Prop where
  c0 : w.cell? ⟨b, 0, none⟩ = some x
  c1 : w.cell? ⟨b, 1, none⟩ = some y
  c2 : w.cell? ⟨b, 2, none⟩ = some z
theorem Three.new {w w' : World} {t : TypeId} {x y z : Value} (g : Grown (w.alloc (.cells #[x, y, z] t)) w') : Three w' w.heap.size x y z :=
  ⟨Grown.cell g (by simp), Grown.cell g (by simp), Grown.cell g (by simp)⟩
set_option maxRecDepth 100000 in
set_option maxHeartbeats 4000000 in
theorem find_hit (v : Int) (n : Nat) (hn0 : 1 ≤ n) (hn1 : n < 70) (hno : ∀ j : Nat, 1 ≤ j → j < n → tellB j v = false) (hyes : tellB n v = true) (w : World) (hG : TabG w) (hH : TabH w) :
    Calls Tryd.prog 32 #[.int .u32 v] w fun e w' => e = .returned (.tuple #[.int .i64 n, .int .u32 (bits .andNot .u32 v (tlI n))]) ∧ Grown w w' := by
  obtain ⟨hK, hK1, hK2⟩ := d_ops ⟨n, hn1⟩ hn0
  simp only at hK hK1 hK2
  go_enter Tryd.func32, Tryd.ntmps32
  go_wp2_with (refine wpList_load_list rfl 98 _ rfl 3 rfl dgL _ hG Tryd.underlying98 rfl sizeD ?_)
  go_loopw [8] (fun i wr => ∃ k : Nat, k ≤ dOf n ∧ i = .int .i64 k ∧ Grown w wr) (fun i _ => dOf n - (intOf i).toNat)
  case atStart => exact ⟨0, by omega, rfl, Grown.refl _⟩
  case round =>
    obtain ⟨k, hk1, rfl, hg⟩ := hrel
    have hx := d_row k (by omega)
    have hk11 : (k : Int) < 11 := by omega
    obtain ⟨b0, b1, b2, _, _⟩ := d_group ⟨k, by omega⟩
    simp only at b0 b1 b2
    unfold dR at hx
    by_cases hlt : k < dOf n
    · have hm := d_mono ⟨k, by omega⟩ ⟨n, hn1⟩ hn0 hlt
      simp only at hm
      go_wp2
      go_loopw [6] (fun i wi => ∃ o : Nat, dN k 1 ≤ o ∧ (o : Int) ≤ dN k 2 + 1 ∧ i = .int .i64 o ∧ Grown (wr.alloc (.cells #[.int .u32 (dN k 0), .int .i64 (dN k 1), .int .i64 (dN k 2)] 97)) wi) (fun i _ => 70 - (intOf i).toNat)
      case atStart => exact ⟨(dN k 1).toNat, by omega, by omega, by rw [Int.toNat_of_nonneg (by omega)], Grown.refl _⟩
      case round =>
        obtain ⟨o, ho0, ho1, rfl, hgi⟩ := hrel
        obtain ⟨c0, c1, c2⟩ := Three.new hgi
        by_cases hle : (o : Int) ≤ dN k 2
        · have ch := (hH.grown (Grown.trans' (hg.alloc _ _) hgi)).cell o (by omega)
          have ho70 : (o : Int) < 70 := by omega
          have hp := hno o (by omega) (by omega)
          unfold tellB tlI at hp
          rw [d_in ⟨k, by omega⟩ ⟨o, by omega⟩ ho0 (by omega)] at hp
          simp only at hp
          go_wp2
          go_region
          go_wp2
          refine ⟨⟨o + 1, by omega, by omega, by simp, hgi.drew⟩, ?_⟩
          simp [intOf]
          omega
        · go_wp2
          refine ⟨⟨k + 1, by omega, by simp, Grown.trans' (hg.alloc _ _) hgi⟩, ?_⟩
          simp [intOf]
          omega
    · obtain rfl : k = dOf n := by omega
      go_wp2
      go_loopw [6] (fun i wi => ∃ o : Nat, dN (dOf n) 1 ≤ o ∧ (o : Int) ≤ (n : Int) ∧ i = .int .i64 o ∧ Grown (wr.alloc (.cells #[.int .u32 (dN (dOf n) 0), .int .i64 (dN (dOf n) 1), .int .i64 (dN (dOf n) 2)] 97)) wi) (fun i _ => 70 - (intOf i).toNat)
      case atStart => exact ⟨(dN (dOf n) 1).toNat, by omega, by omega, by rw [Int.toNat_of_nonneg (by omega)], Grown.refl _⟩
      case round =>
        obtain ⟨o, ho0, ho1, rfl, hgi⟩ := hrel
        obtain ⟨c0, c1, c2⟩ := Three.new hgi
        by_cases hlo : o < n
        · have hle : (o : Int) ≤ dN (dOf n) 2 := by omega
          have ch := (hH.grown (Grown.trans' (hg.alloc _ _) hgi)).cell o (by omega)
          have ho70 : (o : Int) < 70 := by omega
          have hp := hno o (by omega) (by omega)
          unfold tellB tlI at hp
          rw [d_in ⟨dOf n, hK⟩ ⟨o, by omega⟩ ho0 (by omega)] at hp
          simp only at hp
          go_wp2
          go_region
          go_wp2
          refine ⟨⟨o + 1, by omega, by omega, by simp, hgi.drew⟩, ?_⟩
          simp [intOf]
          omega
        · obtain rfl : o = n := by omega
          have ch := (hH.grown (Grown.trans' (hg.alloc _ _) hgi)).cell o (by omega)
          have ho70 : (o : Int) < 70 := by omega
          have hp := hyes
          unfold tellB tlI at hp
          go_wp2
          go_region
          go_wp2
          go_region
          go_wp2
          go_ret2
          exact ⟨rfl, Grown.trans' (hg.alloc _ _) hgi.drew.drew⟩
set_option maxRecDepth 100000 in
set_option maxHeartbeats 4000000 in
theorem find_none (v : Int) (hno : ∀ j : Nat, 1 ≤ j → j < 70 → tellB j v = false) (w : World) (hG : TabG w) (hH : TabH w) :
    Calls Tryd.prog 32 #[.int .u32 v] w fun e w' => e = .returned (.tuple #[.int .i64 0, .int .u32 0]) ∧ Grown w w' := by
  go_enter Tryd.func32, Tryd.ntmps32
  go_wp2_with (refine wpList_load_list rfl 98 _ rfl 3 rfl dgL _ hG Tryd.underlying98 rfl sizeD ?_)
  go_loopw [8] (fun i wr => ∃ k : Nat, k ≤ 11 ∧ i = .int .i64 k ∧ Grown w wr) (fun i _ => 11 - (intOf i).toNat)
  case atStart => exact ⟨0, by omega, rfl, Grown.refl _⟩
  case round =>
    obtain ⟨k, hk1, rfl, hg⟩ := hrel
    by_cases hlt : k < 11
    · have hx := d_row k (by omega)
      have hk11 : (k : Int) < 11 := by omega
      obtain ⟨b0, b1, b2, _, _⟩ := d_group ⟨k, by omega⟩
      simp only at b0 b1 b2
      unfold dR at hx
      go_wp2
      go_loopw [6] (fun i wi => ∃ o : Nat, dN k 1 ≤ o ∧ (o : Int) ≤ dN k 2 + 1 ∧ i = .int .i64 o ∧ Grown (wr.alloc (.cells #[.int .u32 (dN k 0), .int .i64 (dN k 1), .int .i64 (dN k 2)] 97)) wi) (fun i _ => 70 - (intOf i).toNat)
      case atStart => exact ⟨(dN k 1).toNat, by omega, by omega, by rw [Int.toNat_of_nonneg (by omega)], Grown.refl _⟩
      case round =>
        obtain ⟨o, ho0, ho1, rfl, hgi⟩ := hrel
        obtain ⟨c0, c1, c2⟩ := Three.new hgi
        by_cases hle : (o : Int) ≤ dN k 2
        · have ch := (hH.grown (Grown.trans' (hg.alloc _ _) hgi)).cell o (by omega)
          have ho70 : (o : Int) < 70 := by omega
          have hp := hno o (by omega) (by omega)
          unfold tellB tlI at hp
          rw [d_in ⟨k, by omega⟩ ⟨o, by omega⟩ ho0 (by omega)] at hp
          simp only at hp
          go_wp2
          go_region
          go_wp2
          refine ⟨⟨o + 1, by omega, by omega, by simp, hgi.drew⟩, ?_⟩
          simp [intOf]
          omega
        · go_wp2
          refine ⟨⟨k + 1, by omega, by simp, Grown.trans' (hg.alloc _ _) hgi⟩, ?_⟩
          simp [intOf]
          omega
    · obtain rfl : k = 11 := by omega
      go_wp2
      go_ret2
      exact ⟨rfl, hg⟩
end Go.Proofs.YtdogjmimjjmmaaaDoor
namespace Go.Proofs.YtdogjmimjjmmaaaDoor
open Go.RowKit
/-- The listed tables' cells stand. -/
structure Tab (w : World) : Prop where
  i : TabI w
  g : TabG w
  h : TabH w
theorem Tab.grown {a b : World} (h : Tab a) (g : Grown a b) : Tab b := ⟨h.i.grown g, h.g.grown g, h.h.grown g⟩
theorem rest_bd (v : Int) (op : Int) : 0 ≤ bits .andNot .u32 v (tlI op) ∧ bits .andNot .u32 v (tlI op) < 4294967296 := by
  show 0 ≤ IntKind.u32.wrap _ ∧ IntKind.u32.wrap _ < 4294967296
  rw [IntKind.wrap_u32]
  omega
set_option maxRecDepth 100000 in
set_option maxHeartbeats 2000000 in
theorem decode_hit (v : Int) (hv0 : 0 ≤ v) (hv1 : v < 4294967296) (n : Nat) (hn0 : 1 ≤ n) (hn1 : n < 70) (hno : ∀ j : Nat, 1 ≤ j → j < n → hitB j v = false) (hyes : hitB n v = true) (w : World) (hT : Tab w) :
    Calls Tryd.prog 14 #[.int .u32 v] w fun e w' => e = .returned (.tuple #[.agg #[.int .i64 n, .int .i64 (gRdI n v), .int .i64 (gRs1I n v), .int .i64 (gRs2I n v), .int .i64 (gImmI n v), .int .i64 (gCsrI n v)], .int .i64 0]) ∧ Grown w w' := by
  have hno' : ∀ j : Nat, 1 ≤ j → j < n → tellB j v = false := fun j a b => by rw [tell_hit j v (by omega) (by omega) hv0 hv1]; exact hno j a b
  have hyes' : tellB n v = true := by rw [tell_hit n v (by omega) (by omega) hv0 hv1]; exact hyes
  have hT1 := hT.grown ((Grown.refl w).alloc #[.int .i64 0, .int .i64 0, .int .i64 0, .int .i64 0, .int .i64 0, .int .i64 0] 23)
  obtain ⟨r0, r1⟩ := rest_bd v n
  have hr : bits .andNot .u32 v (tlI n) = bits .andNot .u32 v (tlI n) := rfl
  have hn : ¬ (n : Int) = 0 := by omega
  generalize h : bits .andNot .u32 v (tlI n) = r at r0 r1
  go_enter Tryd.func14, Tryd.ntmps14
  go_wp2_with (first | (go_at_call 32; refine (find_hit v n hn0 hn1 hno' hyes' _ hT1.g hT1.h).mono ?_; rw [h]; rintro e w1 ⟨rfl, hg1⟩) | (go_at_call 33; refine (read_at n v r (by omega) (by omega) hv0 hv1 h.symm _ (hT1.i.grown hg1)).mono ?_; rintro e w2 ⟨rfl, hg2⟩) | refine wpList_store_row rfl 23 _ _ rfl w.heap.size #[.int .i64 n, .int .i64 (gRdI n v), .int .i64 (gRs1I n v), .int .i64 (gRs2I n v), .int .i64 (gImmI n v), .int .i64 (gCsrI n v)] rfl rfl 23 _ (Grown.block (Grown.trans' hg1 hg2) (heap_alloc_last w _)) (size25 _ _ _ _ _ _) rfl (ones6 _ _ _ _ _ _) ?_)
  have hB := Grown.block (Grown.trans' hg1 hg2) (heap_alloc_last w _)
  refine bodyPost_ret ?_ rfl ⟨rfl, Grown.setRow (Grown.trans' ((Grown.refl _).alloc _ _) (Grown.trans' hg1 hg2)) (Nat.le_refl _) hB⟩
  rw [results_cell_tmp rfl]
  simp [asAddr, Result.andThen, run_loadVar_row _ _ 23 23 _ (0, 0) _ (setRow_heap _ _ _ _ _ _ hB) Tryd.underlying23 rfl (size25 _ _ _ _ _ _)]
set_option maxRecDepth 100000 in
set_option maxHeartbeats 2000000 in
theorem decode_none (v : Int) (hv0 : 0 ≤ v) (hv1 : v < 4294967296) (hno : ∀ j : Nat, 1 ≤ j → j < 70 → hitB j v = false) (w : World) (hT : Tab w) :
    Calls Tryd.prog 14 #[.int .u32 v] w fun e w' => e = .returned (.tuple #[.agg #[.int .i64 0, .int .i64 0, .int .i64 0, .int .i64 0, .int .i64 0, .int .i64 0], .int .i64 40]) ∧ Grown w w' := by
  have hno' : ∀ j : Nat, 1 ≤ j → j < 70 → tellB j v = false := fun j a b => by rw [tell_hit j v (by omega) (by omega) hv0 hv1]; exact hno j a b
  have hT1 := hT.grown ((Grown.refl w).alloc #[.int .i64 0, .int .i64 0, .int .i64 0, .int .i64 0, .int .i64 0, .int .i64 0] 23)
  go_enter Tryd.func14, Tryd.ntmps14
  go_wp2_with (first | (go_at_call 32; refine (find_none v hno' _ hT1.g hT1.h).mono ?_; rintro e w1 ⟨rfl, hg1⟩) | refine wpList_store_row rfl 23 _ _ rfl w.heap.size #[.int .i64 0, .int .i64 0, .int .i64 0, .int .i64 0, .int .i64 0, .int .i64 0] rfl rfl 23 _ (Grown.block hg1 (heap_alloc_last w _)) (size25 _ _ _ _ _ _) rfl (ones6 _ _ _ _ _ _) ?_)
  have hB := Grown.block (hg1) (heap_alloc_last w _)
  refine bodyPost_ret ?_ rfl ⟨rfl, Grown.setRow (Grown.trans' ((Grown.refl _).alloc _ _) (hg1)) (Nat.le_refl _) hB⟩
  rw [results_cell_tmp rfl]
  simp [asAddr, Result.andThen, run_loadVar_row _ _ 23 23 _ (0, 0) _ (setRow_heap _ _ _ _ _ _ hB) Tryd.underlying23 rfl (size25 _ _ _ _ _ _)]
end Go.Proofs.YtdogjmimjjmmaaaDoor
namespace Go.Proofs.YtdogjmimjjmmaaaDoor
open Go.RowKit
/-- The first operation that the word has, or 0. -/
def hitN (v : Int) : Nat := (((List.range 70).find? fun j : Nat => decide (1 ≤ j) && hitB j v).getD 0)
def okB (v : Int) : Bool := !(hitN v == 0)
def xOp (v : Int) : Int := hitN v
def xRd (v : Int) : Int := cond (okB v) (gRdI (hitN v) v) 0
def xRs1 (v : Int) : Int := cond (okB v) (gRs1I (hitN v) v) 0
def xRs2 (v : Int) : Int := cond (okB v) (gRs2I (hitN v) v) 0
def xImm (v : Int) : Int := cond (okB v) (gImmI (hitN v) v) 0
def xCsr (v : Int) : Int := cond (okB v) (gCsrI (hitN v) v) 0
def xE (v : Int) : Int := cond (okB v) 0 40
theorem hit_ways3 (v : Int) : (okB v = true ∧ 1 ≤ hitN v ∧ hitN v < 70 ∧ hitB (hitN v) v = true ∧ ∀ j : Nat, 1 ≤ j → j < hitN v → hitB j v = false) ∨ (okB v = false ∧ hitN v = 0 ∧ ∀ j : Nat, 1 ≤ j → j < 70 → hitB j v = false) := by
  cases h : (List.range 70).find? fun j : Nat => decide (1 ≤ j) && hitB j v with
  | none =>
    have e : hitN v = 0 := by unfold hitN; rw [h]; rfl
    refine .inr ⟨by unfold okB; rw [e]; rfl, e, fun j h1 h2 => ?_⟩
    have := List.find?_eq_none.1 h j (List.mem_range.2 h2)
    simpa [h1] using this
  | some n =>
    have e : hitN v = n := by unfold hitN; rw [h]; rfl
    obtain ⟨hp, xs, ys, hs, hf⟩ := List.find?_eq_some_iff_append.1 h
    simp only [Bool.and_eq_true, decide_eq_true_eq] at hp
    have hn70 : n < 70 := List.mem_range.1 (List.mem_of_find?_eq_some h)
    refine .inl ⟨by unfold okB; rw [e]; simp; omega, by omega, by omega, by rw [e]; exact hp.2, fun j h1 h2 => ?_⟩
    have hlen : xs.length = n := by
      have hl : (List.range 70)[xs.length]? = some n := by rw [hs]; simp
      have hlt : xs.length < 70 := by
        have := (List.getElem?_eq_some_iff.1 hl).1
        simpa using this
      rw [List.getElem?_range hlt] at hl
      exact Option.some.inj hl
    have hj : j ∈ xs := by
      have hjn : j < xs.length := by omega
      have hg : (List.range 70)[j]? = some j := List.getElem?_range (by omega)
      rw [hs, List.getElem?_append_left hjn] at hg
      exact List.mem_of_getElem? hg
    have := hf j hj
    simpa [h1] using this
theorem decode_any (v : Int) (hv0 : 0 ≤ v) (hv1 : v < 4294967296) (w : World) (hT : Tab w) :
    Calls Tryd.prog 14 #[.int .u32 v] w fun e w' => e = .returned (.tuple #[.agg #[.int .i64 (xOp v), .int .i64 (xRd v), .int .i64 (xRs1 v), .int .i64 (xRs2 v), .int .i64 (xImm v), .int .i64 (xCsr v)], .int .i64 (xE v)]) ∧ Grown w w' := by
  unfold xE xRd xRs1 xRs2 xImm xCsr xOp
  rcases hit_ways3 v with ⟨ho, h0, h1, hy, hn⟩ | ⟨ho, h0, hn⟩
  · rw [ho]
    exact decode_hit v hv0 hv1 (hitN v) h0 h1 hn hy w hT
  · rw [ho, h0]
    exact decode_none v hv0 hv1 hn w hT
theorem decode_from {W : World} (hT : Tab W) {w : World} (hg : Grown W w) (v : Int) (hv0 : 0 ≤ v) (hv1 : v < 4294967296) :
    Calls Tryd.prog 14 #[.int .u32 v] w fun e w' => e = .returned (.tuple #[.agg #[.int .i64 (xOp v), .int .i64 (xRd v), .int .i64 (xRs1 v), .int .i64 (xRs2 v), .int .i64 (xImm v), .int .i64 (xCsr v)], .int .i64 (xE v)]) ∧ Grown W w' :=
  (decode_any v hv0 hv1 w (hT.grown hg)).mono fun _ _ h => ⟨h.1, Grown.trans' hg h.2⟩
theorem format_from {W : World} (hT : Tab W) {w : World} (hg : Grown W w) (op : Int) :
    Calls Tryd.prog 39 #[.int .i64 op] w fun e w' => e = .returned (.int .u8 (fmtI op)) ∧ Grown W w' :=
  (format_any op w (hT.grown hg).i).mono fun _ _ h => ⟨h.1, Grown.trans' hg h.2⟩
theorem class_from {W : World} (hT : Tab W) {w : World} (hg : Grown W w) (op : Int) :
    Calls Tryd.prog 43 #[.int .i64 op] w fun e w' => e = .returned (.int .i64 (clsI op)) ∧ Grown W w' :=
  (class_in op w (hT.grown hg).i).mono fun _ _ h => ⟨h.1, Grown.trans' hg h.2⟩
theorem is_from {W : World} (hT : Tab W) {w : World} (hg : Grown W w) (op rd rs1 rs2 imm csr : Int) :
    Calls Tryd.prog 17 #[.agg #[.int .i64 op, .int .i64 rd, .int .i64 rs1, .int .i64 rs2, .int .i64 imm, .int .i64 csr]] w fun e w' => e = .returned (.bool (isB op rd rs1 rs2 imm csr)) ∧ Grown W w' :=
  (is_in op rd rs1 rs2 imm csr w (hT.grown hg).i).mono fun _ _ h => ⟨h.1, Grown.trans' hg h.2⟩
end Go.Proofs.YtdogjmimjjmmaaaDoor
