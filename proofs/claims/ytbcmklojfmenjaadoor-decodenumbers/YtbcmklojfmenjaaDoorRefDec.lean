/-
  What the document's Decode answers (the reference of layers 3 and 4): walked whole, for every word.
-/
import Derived.Test.YtbcmklojfmenjaaDoorRefEnc
import Derived.Laws.ResultCell
namespace Go.Proofs.YtbcmklojfmenjaaDoor
open Go.RowKit
def gIs (op v : Int) : Bool := isB op (gRdI op v) (gRs1I op v) (gRs2I op v) (gImmI op v) (gCsrI op v)
def gEnc (op v : Int) : Int := encI op (gRdI op v) (gRs1I op v) (gRs2I op v) (gImmI op v % 4294967296) (gCsrI op v)
def skipB (op v : Int) : Bool := (fixI op == 0) && (!(v % 128 == opcI op) || (decide (3 < op) && !(v / 4096 % 8 == f3I op)))
def hitB (op v : Int) : Bool := !skipB op v && (gIs op v && gEnc op v == v)
theorem skip_ways (op v : Int) : (skipB op v = true ∧ (fixI op == 0) = true ∧ ((v % 128 == opcI op) = false ∨ (v % 128 == opcI op) = true ∧ 3 < op ∧ (v / 4096 % 8 == f3I op) = false))
    ∨ (skipB op v = false ∧ ((fixI op == 0) = false ∨ (fixI op == 0) = true ∧ (v % 128 == opcI op) = true ∧ (¬ 3 < op ∨ 3 < op ∧ (v / 4096 % 8 == f3I op) = true))) := by
  unfold skipB
  cases fixI op == 0 <;> cases v % 128 == opcI op <;> cases v / 4096 % 8 == f3I op <;> by_cases h : 3 < op <;> simp [h]
theorem encode_from {W w : World} (hg : Grown W w) (op v : Int) (h : gIs op v = true) :
    Calls Tryd.prog 14 #[.agg #[.int .i64 op, .int .i64 (gRdI op v), .int .i64 (gRs1I op v), .int .i64 (gRs2I op v), .int .i64 (gImmI op v), .int .i64 (gCsrI op v)]] w
      fun e w' => e = .returned (.tuple #[.int .u32 (gEnc op v), .bool true]) ∧ Grown W w' :=
  (encode_any _ _ _ _ _ _ h w).mono fun _ _ h => ⟨h.1, Grown.trans' hg h.2⟩
theorem encode_not {W w : World} (hg : Grown W w) (op v : Int) (h : gIs op v = false) :
    Calls Tryd.prog 14 #[.agg #[.int .i64 op, .int .i64 (gRdI op v), .int .i64 (gRs1I op v), .int .i64 (gRs2I op v), .int .i64 (gImmI op v), .int .i64 (gCsrI op v)]] w
      fun e w' => e = .returned (.tuple #[.int .u32 0, .bool false]) ∧ Grown W w' :=
  (encode_none _ _ _ _ _ _ h w).mono fun _ _ h => ⟨h.1, Grown.trans' hg h.2⟩
theorem hit_ways {op v : Int} (h : hitB op v = false) : skipB op v = true ∨ skipB op v = false ∧ (gIs op v = false ∨ gIs op v = true ∧ (gEnc op v == v) = false) := by
  unfold hitB at h
  revert h
  cases skipB op v <;> cases gIs op v <;> cases gEnc op v == v <;> simp
theorem hit_yes {op v : Int} (h : hitB op v = true) : skipB op v = false ∧ gIs op v = true ∧ (gEnc op v == v) = true := by
  unfold hitB at h
  revert h
  cases skipB op v <;> cases gIs op v <;> cases gEnc op v == v <;> simp
theorem Grown.setRow {W w' : World} (h : Grown W w') {g : Nat} (hg : W.heap.size ≤ g) {old cs : Array Value} {t : TypeId} {fr : Nat × Nat} (ho : w'.heap[g]? = some (.cells old t fr)) : Grown W (w'.setRow g cs) := by
  obtain ⟨⟨h1, h2, h3⟩, hf, hs⟩ := h
  refine ⟨⟨h1, h2, fun i hi => ?_⟩, fun x => ?_, by simpa using hs⟩
  · rw [setRow_other w' g i cs (by omega)]
    exact h3 i hi
  · rw [← hf x]
    unfold World.frozen?
    by_cases e : x.block = g
    · rw [e, setRow_heap w' g old cs t fr ho, ho]
    · rw [setRow_other w' g x.block cs e]
theorem Grown.block {a b : World} (h : Grown a b) {i : Nat} {c : Array Value} {t : TypeId} {fr : Nat × Nat} (hi : a.heap[i]? = some (.cells c t fr)) : b.heap[i]? = some (.cells c t fr) := by
  have hlt : i < a.heap.size := (Array.getElem?_eq_some_iff.1 hi).1
  have h3 := h.1.2.2 i hlt
  rw [hi] at h3
  cases hb : b.heap[i]? with
  | none => rw [hb] at h3; simp at h3
  | some o =>
    cases o <;> rw [hb] at h3 <;> simp at h3
    case cells c' t' fr' =>
      obtain ⟨rfl, rfl, hsz, hc⟩ := h3
      have : c' = c := Array.ext_getElem? (fun j => hc j)
      rw [this]
theorem ones6 (a b c d e f : Int) : (#[.int .i64 a, .int .i64 b, .int .i64 c, .int .i64 d, .int .i64 e, .int .i64 f] : Array Value).all (·.oneCell') = true := by simp [Value.oneCell']
theorem size25 (a b c d e f : Value) : (Tryd.prog.info? 25).map (·.size) = some (#[a, b, c, d, e, f] : Array Value).size := by kernel_rfl
set_option linter.unusedVariables false in
set_option maxRecDepth 100000 in
set_option maxHeartbeats 4000000 in
theorem rdecode_hit (v : Int) (hv0 : 0 ≤ v) (hv1 : v < 4294967296) (n : Nat) (hn0 : 1 ≤ n) (hn1 : n < 70) (hno : ∀ j : Nat, 1 ≤ j → j < n → hitB j v = false) (hyes : hitB n v = true) (w : World) :
    Calls Tryd.prog 10 #[.int .u32 v] w fun e w' => e = .returned (.tuple #[.agg #[.int .i64 n, .int .i64 (gRdI n v), .int .i64 (gRs1I n v), .int .i64 (gRs2I n v), .int .i64 (gImmI n v), .int .i64 (gCsrI n v)], .bool true]) ∧ Grown w w' := by
  have a1 : bits .and .u32 v 127 = v % 128 := and127 hv0 hv1
  have a2 : bits .and .u32 (v / 4096) 7 = v / 4096 % 8 := and7 (by omega) (by omega)
  go_enter Tryd.func10, Tryd.ntmps10
  go_wp2
  go_loopw [4] (fun i wr => ∃ k : Nat, 1 ≤ k ∧ k ≤ n ∧ i = .int .i64 k ∧ Grown (w.alloc (.cells #[.int .i64 0, .int .i64 0, .int .i64 0, .int .i64 0, .int .i64 0, .int .i64 0] 25)) wr) (fun i _ => n - (intOf i).toNat)
  case atStart => exact ⟨1, by omega, by omega, rfl, Grown.refl _⟩
  case round =>
    obtain ⟨k, hk0, hk1, rfl, hg⟩ := hrel
    by_cases hlt : k < n
    · have hlt7 : (k : Int) < 70 := by omega
      rcases skip_ways k v with ⟨hs, hf, hq | ⟨hq, h3, hr⟩⟩ | ⟨hs, hrest⟩
      · have hq' : (v % 128 != opcI k) = true := by simp [bne, hq]
        go_wp2_with (first | (go_at_call 19; refine (code_from hg _ (by omega) (by omega)).mono ?_; rintro e w' ⟨rfl, hg⟩) | (go_at_call 20; refine (fixed_any _ _).mono ?_; rintro e w' ⟨rfl, rfl⟩) | (go_at_call 21; refine (guess_from hg _ _ (by omega) (by omega) hv0 hv1).mono ?_; rintro e w' ⟨rfl, hg⟩) | (go_at_call 14; refine (encode_not (Grown.refl _) _ _ hi).mono ?_; rintro e w2 ⟨rfl, h2⟩; obtain ⟨c0, c1, c2, c3, c4, c5⟩ := (Six.new _ _ _ _ _ _ _ _).grown h2; replace hg := Grown.trans' (hg.alloc _ _) h2))
        refine ⟨⟨k + 1, by omega, by omega, by simp, hg⟩, ?_⟩
        simp [intOf]
        omega
      · have hq' : (v % 128 != opcI k) = false := by simp [bne, hq]
        have hr' : (v / 4096 % 8 != f3I k) = true := by simp [bne, hr]
        go_wp2_with (first | (go_at_call 19; refine (code_from hg _ (by omega) (by omega)).mono ?_; rintro e w' ⟨rfl, hg⟩) | (go_at_call 20; refine (fixed_any _ _).mono ?_; rintro e w' ⟨rfl, rfl⟩) | (go_at_call 21; refine (guess_from hg _ _ (by omega) (by omega) hv0 hv1).mono ?_; rintro e w' ⟨rfl, hg⟩) | (go_at_call 14; refine (encode_not (Grown.refl _) _ _ hi).mono ?_; rintro e w2 ⟨rfl, h2⟩; obtain ⟨c0, c1, c2, c3, c4, c5⟩ := (Six.new _ _ _ _ _ _ _ _).grown h2; replace hg := Grown.trans' (hg.alloc _ _) h2))
        refine ⟨⟨k + 1, by omega, by omega, by simp, hg⟩, ?_⟩
        simp [intOf]
        omega
      · rcases hit_ways (hno k hk0 hlt) with hh | ⟨_, hi | ⟨hi, he⟩⟩
        · rw [hh] at hs; cases hs
        · rcases hrest with hf | ⟨hf, hq, h3 | ⟨h3, hr⟩⟩
          · go_wp2_with (first | (go_at_call 19; refine (code_from hg _ (by omega) (by omega)).mono ?_; rintro e w' ⟨rfl, hg⟩) | (go_at_call 20; refine (fixed_any _ _).mono ?_; rintro e w' ⟨rfl, rfl⟩) | (go_at_call 21; refine (guess_from hg _ _ (by omega) (by omega) hv0 hv1).mono ?_; rintro e w' ⟨rfl, hg⟩) | (go_at_call 14; refine (encode_not (Grown.refl _) _ _ hi).mono ?_; rintro e w2 ⟨rfl, h2⟩; obtain ⟨c0, c1, c2, c3, c4, c5⟩ := (Six.new _ _ _ _ _ _ _ _).grown h2; replace hg := Grown.trans' (hg.alloc _ _) h2))
            refine ⟨⟨k + 1, by omega, by omega, by simp, hg⟩, ?_⟩
            simp [intOf]
            omega
          · have hq' : (v % 128 != opcI k) = false := by simp [bne, hq]
            go_wp2_with (first | (go_at_call 19; refine (code_from hg _ (by omega) (by omega)).mono ?_; rintro e w' ⟨rfl, hg⟩) | (go_at_call 20; refine (fixed_any _ _).mono ?_; rintro e w' ⟨rfl, rfl⟩) | (go_at_call 21; refine (guess_from hg _ _ (by omega) (by omega) hv0 hv1).mono ?_; rintro e w' ⟨rfl, hg⟩) | (go_at_call 14; refine (encode_not (Grown.refl _) _ _ hi).mono ?_; rintro e w2 ⟨rfl, h2⟩; obtain ⟨c0, c1, c2, c3, c4, c5⟩ := (Six.new _ _ _ _ _ _ _ _).grown h2; replace hg := Grown.trans' (hg.alloc _ _) h2))
            refine ⟨⟨k + 1, by omega, by omega, by simp, hg⟩, ?_⟩
            simp [intOf]
            omega
          · have hq' : (v % 128 != opcI k) = false := by simp [bne, hq]
            have hr' : (v / 4096 % 8 != f3I k) = false := by simp [bne, hr]
            go_wp2_with (first | (go_at_call 19; refine (code_from hg _ (by omega) (by omega)).mono ?_; rintro e w' ⟨rfl, hg⟩) | (go_at_call 20; refine (fixed_any _ _).mono ?_; rintro e w' ⟨rfl, rfl⟩) | (go_at_call 21; refine (guess_from hg _ _ (by omega) (by omega) hv0 hv1).mono ?_; rintro e w' ⟨rfl, hg⟩) | (go_at_call 14; refine (encode_not (Grown.refl _) _ _ hi).mono ?_; rintro e w2 ⟨rfl, h2⟩; obtain ⟨c0, c1, c2, c3, c4, c5⟩ := (Six.new _ _ _ _ _ _ _ _).grown h2; replace hg := Grown.trans' (hg.alloc _ _) h2))
            refine ⟨⟨k + 1, by omega, by omega, by simp, hg⟩, ?_⟩
            simp [intOf]
            omega
        · rcases hrest with hf | ⟨hf, hq, h3 | ⟨h3, hr⟩⟩
          · go_wp2_with (first | (go_at_call 19; refine (code_from hg _ (by omega) (by omega)).mono ?_; rintro e w' ⟨rfl, hg⟩) | (go_at_call 20; refine (fixed_any _ _).mono ?_; rintro e w' ⟨rfl, rfl⟩) | (go_at_call 21; refine (guess_from hg _ _ (by omega) (by omega) hv0 hv1).mono ?_; rintro e w' ⟨rfl, hg⟩) | (go_at_call 14; refine (encode_from (Grown.refl _) _ _ hi).mono ?_; rintro e w2 ⟨rfl, h2⟩; obtain ⟨c0, c1, c2, c3, c4, c5⟩ := (Six.new _ _ _ _ _ _ _ _).grown h2; replace hg := Grown.trans' (hg.alloc _ _) h2))
            refine ⟨⟨k + 1, by omega, by omega, by simp, hg⟩, ?_⟩
            simp [intOf]
            omega
          · have hq' : (v % 128 != opcI k) = false := by simp [bne, hq]
            go_wp2_with (first | (go_at_call 19; refine (code_from hg _ (by omega) (by omega)).mono ?_; rintro e w' ⟨rfl, hg⟩) | (go_at_call 20; refine (fixed_any _ _).mono ?_; rintro e w' ⟨rfl, rfl⟩) | (go_at_call 21; refine (guess_from hg _ _ (by omega) (by omega) hv0 hv1).mono ?_; rintro e w' ⟨rfl, hg⟩) | (go_at_call 14; refine (encode_from (Grown.refl _) _ _ hi).mono ?_; rintro e w2 ⟨rfl, h2⟩; obtain ⟨c0, c1, c2, c3, c4, c5⟩ := (Six.new _ _ _ _ _ _ _ _).grown h2; replace hg := Grown.trans' (hg.alloc _ _) h2))
            refine ⟨⟨k + 1, by omega, by omega, by simp, hg⟩, ?_⟩
            simp [intOf]
            omega
          · have hq' : (v % 128 != opcI k) = false := by simp [bne, hq]
            have hr' : (v / 4096 % 8 != f3I k) = false := by simp [bne, hr]
            go_wp2_with (first | (go_at_call 19; refine (code_from hg _ (by omega) (by omega)).mono ?_; rintro e w' ⟨rfl, hg⟩) | (go_at_call 20; refine (fixed_any _ _).mono ?_; rintro e w' ⟨rfl, rfl⟩) | (go_at_call 21; refine (guess_from hg _ _ (by omega) (by omega) hv0 hv1).mono ?_; rintro e w' ⟨rfl, hg⟩) | (go_at_call 14; refine (encode_from (Grown.refl _) _ _ hi).mono ?_; rintro e w2 ⟨rfl, h2⟩; obtain ⟨c0, c1, c2, c3, c4, c5⟩ := (Six.new _ _ _ _ _ _ _ _).grown h2; replace hg := Grown.trans' (hg.alloc _ _) h2))
            refine ⟨⟨k + 1, by omega, by omega, by simp, hg⟩, ?_⟩
            simp [intOf]
            omega
    · obtain rfl : k = n := by omega
      have hlt7 : (k : Int) < 70 := by omega
      obtain ⟨hs, hi, he⟩ := hit_yes hyes
      rcases skip_ways k v with ⟨hs', _⟩ | ⟨_, hrest⟩
      · rw [hs] at hs'; cases hs'
      · rcases hrest with hf | ⟨hf, hq, h3 | ⟨h3, hr⟩⟩
        · go_wp2_with (first | (go_at_call 19; refine (code_from hg _ (by omega) (by omega)).mono ?_; rintro e w' ⟨rfl, hg⟩) | (go_at_call 20; refine (fixed_any _ _).mono ?_; rintro e w' ⟨rfl, rfl⟩) | (go_at_call 21; refine (guess_from hg _ _ (by omega) (by omega) hv0 hv1).mono ?_; rintro e w' ⟨rfl, hg⟩) | (go_at_call 14; refine (encode_from (Grown.refl _) _ _ hi).mono ?_; rintro e w2 ⟨rfl, h2⟩; obtain ⟨c0, c1, c2, c3, c4, c5⟩ := (Six.new _ _ _ _ _ _ _ _).grown h2; replace hg := Grown.trans' (hg.alloc _ _) h2) | refine wpList_store_row rfl 25 _ _ rfl w.heap.size #[.int .i64 k, .int .i64 (gRdI k v), .int .i64 (gRs1I k v), .int .i64 (gRs2I k v), .int .i64 (gImmI k v), .int .i64 (gCsrI k v)] rfl rfl 25 _ (Grown.block hg (heap_alloc_last w _)) (size25 _ _ _ _ _ _) rfl (ones6 _ _ _ _ _ _) ?_)
          have hB := Grown.block hg (heap_alloc_last w _)
          refine bodyPost_ret ?_ rfl ⟨rfl, Grown.setRow (Grown.trans' ((Grown.refl _).alloc _ _) hg) (Nat.le_refl _) hB⟩
          rw [results_cell_tmp rfl]
          simp [asAddr, Result.andThen, run_loadVar_row _ _ 25 25 _ (0, 0) _ (setRow_heap _ _ _ _ _ _ hB) Tryd.underlying25 rfl (size25 _ _ _ _ _ _)]
        · have hq' : (v % 128 != opcI k) = false := by simp [bne, hq]
          go_wp2_with (first | (go_at_call 19; refine (code_from hg _ (by omega) (by omega)).mono ?_; rintro e w' ⟨rfl, hg⟩) | (go_at_call 20; refine (fixed_any _ _).mono ?_; rintro e w' ⟨rfl, rfl⟩) | (go_at_call 21; refine (guess_from hg _ _ (by omega) (by omega) hv0 hv1).mono ?_; rintro e w' ⟨rfl, hg⟩) | (go_at_call 14; refine (encode_from (Grown.refl _) _ _ hi).mono ?_; rintro e w2 ⟨rfl, h2⟩; obtain ⟨c0, c1, c2, c3, c4, c5⟩ := (Six.new _ _ _ _ _ _ _ _).grown h2; replace hg := Grown.trans' (hg.alloc _ _) h2) | refine wpList_store_row rfl 25 _ _ rfl w.heap.size #[.int .i64 k, .int .i64 (gRdI k v), .int .i64 (gRs1I k v), .int .i64 (gRs2I k v), .int .i64 (gImmI k v), .int .i64 (gCsrI k v)] rfl rfl 25 _ (Grown.block hg (heap_alloc_last w _)) (size25 _ _ _ _ _ _) rfl (ones6 _ _ _ _ _ _) ?_)
          have hB := Grown.block hg (heap_alloc_last w _)
          refine bodyPost_ret ?_ rfl ⟨rfl, Grown.setRow (Grown.trans' ((Grown.refl _).alloc _ _) hg) (Nat.le_refl _) hB⟩
          rw [results_cell_tmp rfl]
          simp [asAddr, Result.andThen, run_loadVar_row _ _ 25 25 _ (0, 0) _ (setRow_heap _ _ _ _ _ _ hB) Tryd.underlying25 rfl (size25 _ _ _ _ _ _)]
        · have hq' : (v % 128 != opcI k) = false := by simp [bne, hq]
          have hr' : (v / 4096 % 8 != f3I k) = false := by simp [bne, hr]
          go_wp2_with (first | (go_at_call 19; refine (code_from hg _ (by omega) (by omega)).mono ?_; rintro e w' ⟨rfl, hg⟩) | (go_at_call 20; refine (fixed_any _ _).mono ?_; rintro e w' ⟨rfl, rfl⟩) | (go_at_call 21; refine (guess_from hg _ _ (by omega) (by omega) hv0 hv1).mono ?_; rintro e w' ⟨rfl, hg⟩) | (go_at_call 14; refine (encode_from (Grown.refl _) _ _ hi).mono ?_; rintro e w2 ⟨rfl, h2⟩; obtain ⟨c0, c1, c2, c3, c4, c5⟩ := (Six.new _ _ _ _ _ _ _ _).grown h2; replace hg := Grown.trans' (hg.alloc _ _) h2) | refine wpList_store_row rfl 25 _ _ rfl w.heap.size #[.int .i64 k, .int .i64 (gRdI k v), .int .i64 (gRs1I k v), .int .i64 (gRs2I k v), .int .i64 (gImmI k v), .int .i64 (gCsrI k v)] rfl rfl 25 _ (Grown.block hg (heap_alloc_last w _)) (size25 _ _ _ _ _ _) rfl (ones6 _ _ _ _ _ _) ?_)
          have hB := Grown.block hg (heap_alloc_last w _)
          refine bodyPost_ret ?_ rfl ⟨rfl, Grown.setRow (Grown.trans' ((Grown.refl _).alloc _ _) hg) (Nat.le_refl _) hB⟩
          rw [results_cell_tmp rfl]
          simp [asAddr, Result.andThen, run_loadVar_row _ _ 25 25 _ (0, 0) _ (setRow_heap _ _ _ _ _ _ hB) Tryd.underlying25 rfl (size25 _ _ _ _ _ _)]
set_option linter.unusedVariables false in
set_option maxRecDepth 100000 in
set_option maxHeartbeats 4000000 in
theorem rdecode_none (v : Int) (hv0 : 0 ≤ v) (hv1 : v < 4294967296) (hno : ∀ j : Nat, 1 ≤ j → j < 70 → hitB j v = false) (w : World) :
    Calls Tryd.prog 10 #[.int .u32 v] w fun e w' => e = .returned (.tuple #[.agg #[.int .i64 0, .int .i64 0, .int .i64 0, .int .i64 0, .int .i64 0, .int .i64 0], .bool false]) ∧ Grown w w' := by
  have a1 : bits .and .u32 v 127 = v % 128 := and127 hv0 hv1
  have a2 : bits .and .u32 (v / 4096) 7 = v / 4096 % 8 := and7 (by omega) (by omega)
  go_enter Tryd.func10, Tryd.ntmps10
  go_wp2
  go_loopw [4] (fun i wr => ∃ k : Nat, 1 ≤ k ∧ k ≤ 70 ∧ i = .int .i64 k ∧ Grown (w.alloc (.cells #[.int .i64 0, .int .i64 0, .int .i64 0, .int .i64 0, .int .i64 0, .int .i64 0] 25)) wr) (fun i _ => 70 - (intOf i).toNat)
  case atStart => exact ⟨1, by omega, by omega, rfl, Grown.refl _⟩
  case round =>
    obtain ⟨k, hk0, hk1, rfl, hg⟩ := hrel
    by_cases hlt : k < 70
    · have hlt7 : (k : Int) < 70 := by omega
      rcases skip_ways k v with ⟨hs, hf, hq | ⟨hq, h3, hr⟩⟩ | ⟨hs, hrest⟩
      · have hq' : (v % 128 != opcI k) = true := by simp [bne, hq]
        go_wp2_with (first | (go_at_call 19; refine (code_from hg _ (by omega) (by omega)).mono ?_; rintro e w' ⟨rfl, hg⟩) | (go_at_call 20; refine (fixed_any _ _).mono ?_; rintro e w' ⟨rfl, rfl⟩) | (go_at_call 21; refine (guess_from hg _ _ (by omega) (by omega) hv0 hv1).mono ?_; rintro e w' ⟨rfl, hg⟩) | (go_at_call 14; refine (encode_not (Grown.refl _) _ _ hi).mono ?_; rintro e w2 ⟨rfl, h2⟩; obtain ⟨c0, c1, c2, c3, c4, c5⟩ := (Six.new _ _ _ _ _ _ _ _).grown h2; replace hg := Grown.trans' (hg.alloc _ _) h2))
        refine ⟨⟨k + 1, by omega, by omega, by simp, hg⟩, ?_⟩
        simp [intOf]
        omega
      · have hq' : (v % 128 != opcI k) = false := by simp [bne, hq]
        have hr' : (v / 4096 % 8 != f3I k) = true := by simp [bne, hr]
        go_wp2_with (first | (go_at_call 19; refine (code_from hg _ (by omega) (by omega)).mono ?_; rintro e w' ⟨rfl, hg⟩) | (go_at_call 20; refine (fixed_any _ _).mono ?_; rintro e w' ⟨rfl, rfl⟩) | (go_at_call 21; refine (guess_from hg _ _ (by omega) (by omega) hv0 hv1).mono ?_; rintro e w' ⟨rfl, hg⟩) | (go_at_call 14; refine (encode_not (Grown.refl _) _ _ hi).mono ?_; rintro e w2 ⟨rfl, h2⟩; obtain ⟨c0, c1, c2, c3, c4, c5⟩ := (Six.new _ _ _ _ _ _ _ _).grown h2; replace hg := Grown.trans' (hg.alloc _ _) h2))
        refine ⟨⟨k + 1, by omega, by omega, by simp, hg⟩, ?_⟩
        simp [intOf]
        omega
      · rcases hit_ways (hno k hk0 hlt) with hh | ⟨_, hi | ⟨hi, he⟩⟩
        · rw [hh] at hs; cases hs
        · rcases hrest with hf | ⟨hf, hq, h3 | ⟨h3, hr⟩⟩
          · go_wp2_with (first | (go_at_call 19; refine (code_from hg _ (by omega) (by omega)).mono ?_; rintro e w' ⟨rfl, hg⟩) | (go_at_call 20; refine (fixed_any _ _).mono ?_; rintro e w' ⟨rfl, rfl⟩) | (go_at_call 21; refine (guess_from hg _ _ (by omega) (by omega) hv0 hv1).mono ?_; rintro e w' ⟨rfl, hg⟩) | (go_at_call 14; refine (encode_not (Grown.refl _) _ _ hi).mono ?_; rintro e w2 ⟨rfl, h2⟩; obtain ⟨c0, c1, c2, c3, c4, c5⟩ := (Six.new _ _ _ _ _ _ _ _).grown h2; replace hg := Grown.trans' (hg.alloc _ _) h2))
            refine ⟨⟨k + 1, by omega, by omega, by simp, hg⟩, ?_⟩
            simp [intOf]
            omega
          · have hq' : (v % 128 != opcI k) = false := by simp [bne, hq]
            go_wp2_with (first | (go_at_call 19; refine (code_from hg _ (by omega) (by omega)).mono ?_; rintro e w' ⟨rfl, hg⟩) | (go_at_call 20; refine (fixed_any _ _).mono ?_; rintro e w' ⟨rfl, rfl⟩) | (go_at_call 21; refine (guess_from hg _ _ (by omega) (by omega) hv0 hv1).mono ?_; rintro e w' ⟨rfl, hg⟩) | (go_at_call 14; refine (encode_not (Grown.refl _) _ _ hi).mono ?_; rintro e w2 ⟨rfl, h2⟩; obtain ⟨c0, c1, c2, c3, c4, c5⟩ := (Six.new _ _ _ _ _ _ _ _).grown h2; replace hg := Grown.trans' (hg.alloc _ _) h2))
            refine ⟨⟨k + 1, by omega, by omega, by simp, hg⟩, ?_⟩
            simp [intOf]
            omega
          · have hq' : (v % 128 != opcI k) = false := by simp [bne, hq]
            have hr' : (v / 4096 % 8 != f3I k) = false := by simp [bne, hr]
            go_wp2_with (first | (go_at_call 19; refine (code_from hg _ (by omega) (by omega)).mono ?_; rintro e w' ⟨rfl, hg⟩) | (go_at_call 20; refine (fixed_any _ _).mono ?_; rintro e w' ⟨rfl, rfl⟩) | (go_at_call 21; refine (guess_from hg _ _ (by omega) (by omega) hv0 hv1).mono ?_; rintro e w' ⟨rfl, hg⟩) | (go_at_call 14; refine (encode_not (Grown.refl _) _ _ hi).mono ?_; rintro e w2 ⟨rfl, h2⟩; obtain ⟨c0, c1, c2, c3, c4, c5⟩ := (Six.new _ _ _ _ _ _ _ _).grown h2; replace hg := Grown.trans' (hg.alloc _ _) h2))
            refine ⟨⟨k + 1, by omega, by omega, by simp, hg⟩, ?_⟩
            simp [intOf]
            omega
        · rcases hrest with hf | ⟨hf, hq, h3 | ⟨h3, hr⟩⟩
          · go_wp2_with (first | (go_at_call 19; refine (code_from hg _ (by omega) (by omega)).mono ?_; rintro e w' ⟨rfl, hg⟩) | (go_at_call 20; refine (fixed_any _ _).mono ?_; rintro e w' ⟨rfl, rfl⟩) | (go_at_call 21; refine (guess_from hg _ _ (by omega) (by omega) hv0 hv1).mono ?_; rintro e w' ⟨rfl, hg⟩) | (go_at_call 14; refine (encode_from (Grown.refl _) _ _ hi).mono ?_; rintro e w2 ⟨rfl, h2⟩; obtain ⟨c0, c1, c2, c3, c4, c5⟩ := (Six.new _ _ _ _ _ _ _ _).grown h2; replace hg := Grown.trans' (hg.alloc _ _) h2))
            refine ⟨⟨k + 1, by omega, by omega, by simp, hg⟩, ?_⟩
            simp [intOf]
            omega
          · have hq' : (v % 128 != opcI k) = false := by simp [bne, hq]
            go_wp2_with (first | (go_at_call 19; refine (code_from hg _ (by omega) (by omega)).mono ?_; rintro e w' ⟨rfl, hg⟩) | (go_at_call 20; refine (fixed_any _ _).mono ?_; rintro e w' ⟨rfl, rfl⟩) | (go_at_call 21; refine (guess_from hg _ _ (by omega) (by omega) hv0 hv1).mono ?_; rintro e w' ⟨rfl, hg⟩) | (go_at_call 14; refine (encode_from (Grown.refl _) _ _ hi).mono ?_; rintro e w2 ⟨rfl, h2⟩; obtain ⟨c0, c1, c2, c3, c4, c5⟩ := (Six.new _ _ _ _ _ _ _ _).grown h2; replace hg := Grown.trans' (hg.alloc _ _) h2))
            refine ⟨⟨k + 1, by omega, by omega, by simp, hg⟩, ?_⟩
            simp [intOf]
            omega
          · have hq' : (v % 128 != opcI k) = false := by simp [bne, hq]
            have hr' : (v / 4096 % 8 != f3I k) = false := by simp [bne, hr]
            go_wp2_with (first | (go_at_call 19; refine (code_from hg _ (by omega) (by omega)).mono ?_; rintro e w' ⟨rfl, hg⟩) | (go_at_call 20; refine (fixed_any _ _).mono ?_; rintro e w' ⟨rfl, rfl⟩) | (go_at_call 21; refine (guess_from hg _ _ (by omega) (by omega) hv0 hv1).mono ?_; rintro e w' ⟨rfl, hg⟩) | (go_at_call 14; refine (encode_from (Grown.refl _) _ _ hi).mono ?_; rintro e w2 ⟨rfl, h2⟩; obtain ⟨c0, c1, c2, c3, c4, c5⟩ := (Six.new _ _ _ _ _ _ _ _).grown h2; replace hg := Grown.trans' (hg.alloc _ _) h2))
            refine ⟨⟨k + 1, by omega, by omega, by simp, hg⟩, ?_⟩
            simp [intOf]
            omega
    · obtain rfl : k = 70 := by omega
      go_wp2_with (first | (go_at_call 19; refine (code_from hg _ (by omega) (by omega)).mono ?_; rintro e w' ⟨rfl, hg⟩) | (go_at_call 20; refine (fixed_any _ _).mono ?_; rintro e w' ⟨rfl, rfl⟩) | (go_at_call 21; refine (guess_from hg _ _ (by omega) (by omega) hv0 hv1).mono ?_; rintro e w' ⟨rfl, hg⟩) | (go_at_call 14; refine (encode_not (Grown.refl _) _ _ hi).mono ?_; rintro e w2 ⟨rfl, h2⟩; obtain ⟨c0, c1, c2, c3, c4, c5⟩ := (Six.new _ _ _ _ _ _ _ _).grown h2; replace hg := Grown.trans' (hg.alloc _ _) h2) | refine wpList_store_row rfl 25 _ _ rfl w.heap.size #[.int .i64 0, .int .i64 0, .int .i64 0, .int .i64 0, .int .i64 0, .int .i64 0] rfl rfl 25 _ (Grown.block hg (heap_alloc_last w _)) (size25 _ _ _ _ _ _) rfl (ones6 _ _ _ _ _ _) ?_)
      have hB := Grown.block hg (heap_alloc_last w _)
      refine bodyPost_ret ?_ rfl ⟨rfl, Grown.setRow (Grown.trans' ((Grown.refl _).alloc _ _) hg) (Nat.le_refl _) hB⟩
      rw [results_cell_tmp rfl]
      simp [asAddr, Result.andThen, run_loadVar_row _ _ 25 25 _ (0, 0) _ (setRow_heap _ _ _ _ _ _ hB) Tryd.underlying25 rfl (size25 _ _ _ _ _ _)]
end Go.Proofs.YtbcmklojfmenjaaDoor
