/-
  What the document's Decode answers (the reference of layers 3 and 4): walked whole, for every word.
-/
import Derived.Test.YtdogjmimjjmmaaaDoorRefEnc
import Derived.Laws.ResultCell
namespace Go.Proofs.YtdogjmimjjmmaaaDoor
open Go.RowKit
def gIs (op v : Int) : Bool := isB op (gRdI op v) (gRs1I op v) (gRs2I op v) (gImmI op v) (gCsrI op v)
def gEnc (op v : Int) : Int := encI op (gRdI op v) (gRs1I op v) (gRs2I op v) (gImmI op v % 4294967296) (gCsrI op v)
def skipB (op v : Int) : Bool := (fixI op == 0) && (!(v % 128 == opcI op) || (decide (3 < op) && !(v / 4096 % 8 == f3I op)))
def hitB (op v : Int) : Bool := !skipB op v && (gIs op v && gEnc op v == v)
theorem skip_ways (op v : Int) : (skipB op v = true ∧ (fixI op == 0) = true ∧ ((v % 128 == opcI op) = false ∨ (v % 128 == opcI op) = true ∧ 3 < op ∧ (v / 4096 % 8 == f3I op) = false))
    ∨ (skipB op v = false ∧ ((fixI op == 0) = false ∨ (fixI op == 0) = true ∧ (v % 128 == opcI op) = true ∧ (¬ 3 < op ∨ 3 < op ∧ (v / 4096 % 8 == f3I op) = true))) := by
  unfold skipB
  cases fixI op == 0 <;> cases v % 128 == opcI op <;> cases v / 4096 % 8 == f3I op <;> by_cases h : 3 < op <;> simp [h]
theorem encode_from {W w : World} (hg : Grown W w) (op v : Int) (h : gIs op v = true) :
    Calls Tryd.prog 11 #[.agg #[.int .i64 op, .int .i64 (gRdI op v), .int .i64 (gRs1I op v), .int .i64 (gRs2I op v), .int .i64 (gImmI op v), .int .i64 (gCsrI op v)]] w
      fun e w' => e = .returned (.tuple #[.int .u32 (gEnc op v), .bool true]) ∧ Grown W w' :=
  (encode_any _ _ _ _ _ _ h w).mono fun _ _ h => ⟨h.1, Grown.trans' hg h.2⟩
theorem encode_not {W w : World} (hg : Grown W w) (op v : Int) (h : gIs op v = false) :
    Calls Tryd.prog 11 #[.agg #[.int .i64 op, .int .i64 (gRdI op v), .int .i64 (gRs1I op v), .int .i64 (gRs2I op v), .int .i64 (gImmI op v), .int .i64 (gCsrI op v)]] w
      fun e w' => e = .returned (.tuple #[.int .u32 0, .bool false]) ∧ Grown W w' :=
  (encode_none _ _ _ _ _ _ h w).mono fun _ _ h => ⟨h.1, Grown.trans' hg h.2⟩
theorem hit_ways {op v : Int} (h : hitB op v = false) : skipB op v = true ∨ skipB op v = false ∧ (gIs op v = false ∨ gIs op v = true ∧ (gEnc op v == v) = false) := by
  unfold hitB at h
  revert h
  cases skipB op v <;> cases gIs op v <;> cases gEnc op v == v <;> simp
theorem hit_yes {op v : Int} (h : hitB op v = true) : skipB op v = false ∧ gIs op v = true ∧ (gEnc op v == v) = true := by
  unfold hitB at h
  revert h
  cases skipB op v <;> cases gIs op v <;> cases gEnc op v == v <;> simp
theorem Grown.setRow {W w' : World} (h : Grown W w') {g : Nat} (hg : W.heap.size ≤ g) {old cs : Array Value} {t : TypeId} {fr : Nat × Nat} (ho : w'.heap[g]? = some (.cells old t fr)) : Grown W (w'.setRow g cs) := by
  obtain ⟨⟨h1, h2, h3⟩, hf, hs⟩ := h
  refine ⟨⟨h1, h2, fun i hi => ?_⟩, fun x => ?_, by simpa using hs⟩
  · rw [setRow_other w' g i cs (by omega)]
    exact h3 i hi
  · rw [← hf x]
    unfold World.frozen?
    by_cases e : x.block = g
    · rw [e, setRow_heap w' g old cs t fr ho, ho]
    · rw [setRow_other w' g x.block cs e]
theorem Grown.block {a b : World} (h : Grown a b) {i : Nat} {c : Array Value} {t : TypeId} {fr : Nat × Nat} (hi : a.heap[i]? = some (.cells c t fr)) : b.heap[i]? = some (.cells c t fr) := by
  have hlt : i < a.heap.size := (Array.getElem?_eq_some_iff.1 hi).1
  have h3 := h.1.2.2 i hlt
  rw [hi] at h3
  cases hb : b.heap[i]? with
  | none => rw [hb] at h3; simp at h3
  | some o =>
    cases o <;> rw [hb] at h3 <;> simp at h3
    case cells c' t' fr' =>
      obtain ⟨rfl, rfl, hsz, hc⟩ := h3
      have : c' = c := Array.ext_getElem? (fun j => hc j)
      rw [this]
theorem ones6 (a b c d e f : Int) : (#[.int .i64 a, .int .i64 b, .int .i64 c, .int .i64 d, .int .i64 e, .int .i64 f] : Array Value).all (·.oneCell') = true := by simp [Value.oneCell']
theorem size25 (a b c d e f : Value) : (Tryd.prog.info? 23).map (·.size) = some (#[a, b, c, d, e, f] : Array Value).size := by kernel_rfl
end Go.Proofs.YtdogjmimjjmmaaaDoor
