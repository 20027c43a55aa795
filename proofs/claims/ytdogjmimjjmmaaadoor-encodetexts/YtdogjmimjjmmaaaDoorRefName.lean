/-
  What the document's Name answers (the reference of layers 2 to 4): walked whole, for every number.
-/
import Derived.Test.YtdogjmimjjmmaaaDoorRefIs
import Derived.Deep.WholeRow
namespace Go.Proofs.YtdogjmimjjmmaaaDoor
open Go.RowKit
/-- n where b holds, else 0. -/
def orZ (b : Bool) (n : Int) : Int := cond b n 0
end Go.Proofs.YtdogjmimjjmmaaaDoor
namespace Go.Proofs.YtdogjmimjjmmaaaDoor
open Go.RowKit
/-- The names of the operations, as P2.1 tells them, the 0th one empty. -/
def nmL : List ByteArray := [
  ⟨#[]⟩, ⟨#[108, 117, 105]⟩, ⟨#[97, 117, 105, 112, 99]⟩, ⟨#[106, 97, 108]⟩, ⟨#[106, 97, 108, 114]⟩, ⟨#[98, 101, 113]⟩,
  ⟨#[98, 110, 101]⟩, ⟨#[98, 108, 116]⟩, ⟨#[98, 103, 101]⟩, ⟨#[98, 108, 116, 117]⟩, ⟨#[98, 103, 101, 117]⟩, ⟨#[108, 98]⟩,
  ⟨#[108, 104]⟩, ⟨#[108, 119]⟩, ⟨#[108, 100]⟩, ⟨#[108, 98, 117]⟩, ⟨#[108, 104, 117]⟩, ⟨#[108, 119, 117]⟩,
  ⟨#[115, 98]⟩, ⟨#[115, 104]⟩, ⟨#[115, 119]⟩, ⟨#[115, 100]⟩, ⟨#[97, 100, 100, 105]⟩, ⟨#[115, 108, 116, 105]⟩,
  ⟨#[115, 108, 116, 105, 117]⟩, ⟨#[120, 111, 114, 105]⟩, ⟨#[111, 114, 105]⟩, ⟨#[97, 110, 100, 105]⟩, ⟨#[115, 108, 108, 105]⟩, ⟨#[115, 114, 108, 105]⟩,
  ⟨#[115, 114, 97, 105]⟩, ⟨#[97, 100, 100, 105, 119]⟩, ⟨#[115, 108, 108, 105, 119]⟩, ⟨#[115, 114, 108, 105, 119]⟩, ⟨#[115, 114, 97, 105, 119]⟩, ⟨#[97, 100, 100]⟩,
  ⟨#[115, 117, 98]⟩, ⟨#[115, 108, 108]⟩, ⟨#[115, 108, 116]⟩, ⟨#[115, 108, 116, 117]⟩, ⟨#[120, 111, 114]⟩, ⟨#[115, 114, 108]⟩,
  ⟨#[115, 114, 97]⟩, ⟨#[111, 114]⟩, ⟨#[97, 110, 100]⟩, ⟨#[97, 100, 100, 119]⟩, ⟨#[115, 117, 98, 119]⟩, ⟨#[115, 108, 108, 119]⟩,
  ⟨#[115, 114, 108, 119]⟩, ⟨#[115, 114, 97, 119]⟩, ⟨#[102, 101, 110, 99, 101]⟩, ⟨#[102, 101, 110, 99, 101, 46, 105]⟩, ⟨#[101, 99, 97, 108, 108]⟩, ⟨#[101, 98, 114, 101, 97, 107]⟩,
  ⟨#[99, 115, 114, 114, 119]⟩, ⟨#[99, 115, 114, 114, 115]⟩, ⟨#[99, 115, 114, 114, 99]⟩, ⟨#[99, 115, 114, 114, 119, 105]⟩, ⟨#[99, 115, 114, 114, 115, 105]⟩, ⟨#[99, 115, 114, 114, 99, 105]⟩,
  ⟨#[109, 114, 101, 116]⟩, ⟨#[115, 114, 101, 116]⟩, ⟨#[119, 102, 105]⟩, ⟨#[115, 102, 101, 110, 99, 101, 46, 118, 109, 97]⟩, ⟨#[104, 102, 101, 110, 99, 101, 46, 118, 118, 109, 97]⟩, ⟨#[104, 102, 101, 110, 99, 101, 46, 103, 118, 109, 97]⟩,
  ⟨#[104, 108, 118, 46, 119]⟩, ⟨#[104, 108, 118, 46, 100]⟩, ⟨#[104, 108, 118, 120, 46, 119, 117]⟩, ⟨#[104, 115, 118, 46, 100]⟩]
def nmA : Array Value := (nmL.map Value.string).toArray
def zsA : Array Value := Array.replicate 70 (.string ⟨#[]⟩)
def nameS (op : Int) : ByteArray := nmL.getD op.toNat ⟨#[]⟩
theorem nm_len : nmL.length = 70 := by decide +kernel
theorem nm_size : nmA.size = 70 := by simp [nmA, nm_len]
theorem nm_at {op : Int} (h0 : 0 ≤ op) (h1 : op < 70) : nmA[op.toNat]? = some (.string (nameS op)) := by
  have hl : op.toNat < nmL.length := by rw [nm_len]; omega
  unfold nmA nameS
  simp [List.getElem?_eq_getElem hl, List.getD_eq_getElem?_getD]
theorem info46 : (Tryd.prog.info? 95).map (fun i => (i.zero, i.size)) = some (some (.agg zsA), 70) := by kernel_rfl
theorem zero46 (w : World) : (zeroValue 95).run Tryd.prog w = .ok (.agg zsA) w := (zero_of_info info46).1 w
theorem size46 : (Tryd.prog.info? 95).map (·.size) = some nmA.size := by rw [nm_size]; exact (zero_of_info info46).2
theorem same46 : zsA.size = nmA.size := by rw [nm_size]; simp [zsA]
theorem ones46 : nmA.all (·.oneCell') = true := by simp [nmA, Value.oneCell']
theorem wpList_build_to {P : Program} {ops : Array Oper} {rest : List Oper} {o : Oper} {a : Act} {w : World} {Q : Exit → Act → World → Prop} (hg : o.guard = none) (t : TypeId) (parts : Array (Nat × Operand)) (ho : o.op = .build t parts)
    (cells : Array Value) (hf : P.built t (parts.map fun (i, x) => (i, a.eval x)).toList = some cells)
    (h : wpList P ops Q rest (a.put o.dst (.agg cells)) w) : wpList P ops Q (o :: rest) a w :=
  wpList_build hg t parts ho (by rw [hf]; rfl) (by rw [hf]; exact h)
set_option maxRecDepth 100000 in
set_option maxHeartbeats 4000000 in
theorem rname_in (op : Int) (h0 : 0 ≤ op) (h1 : op < 70) (w : World) :
    Calls Tryd.prog 31 #[.int .i64 op] w fun e w' => e = .returned (.string (nameS op)) ∧ Grown w w' := by
  have hz := zero46
  have hn := nm_at h0 h1
  go_enter Tryd.func31, Tryd.ntmps31
  go_wp2_with (first | refine wpList_build_to rfl 95 _ rfl nmA (by kernel_rfl) ?_ | (refine wpList_store_row rfl 95 _ _ rfl _ nmA rfl rfl 95 zsA (heap_alloc_last _ _) size46 same46 ones46 ?_; rw [World.setRow_alloc_new]))
  go_ret
  exact ⟨rfl, (Grown.refl _).alloc _ _⟩
theorem name_out {op : Int} (h : op < 0 ∨ 70 ≤ op) : nameS op = ⟨#[]⟩ := by
  unfold nameS
  by_cases h0 : op < 0
  · rw [show op.toNat = 0 by omega]; rfl
  · rw [List.getD_eq_getElem?_getD, List.getElem?_eq_none (by rw [nm_len]; omega)]; rfl
set_option maxRecDepth 100000 in
set_option maxHeartbeats 4000000 in
theorem rname_any (op : Int) (w : World) :
    Calls Tryd.prog 31 #[.int .i64 op] w fun e w' => e = .returned (.string (nameS op)) ∧ Grown w w' := by
  by_cases h : op < 0 ∨ 70 ≤ op
  · rw [name_out h]
    have hz := zero46
    rcases h with h | h
    · go_enter Tryd.func31, Tryd.ntmps31
      go_wp2_with (first | refine wpList_build_to rfl 95 _ rfl nmA (by kernel_rfl) ?_ | (refine wpList_store_row rfl 95 _ _ rfl _ nmA rfl rfl 95 zsA (heap_alloc_last _ _) size46 same46 ones46 ?_; rw [World.setRow_alloc_new]))
      go_ret
      exact ⟨rfl, (Grown.refl _).alloc _ _⟩
    · have h' : ¬ op < 0 := by omega
      go_enter Tryd.func31, Tryd.ntmps31
      go_wp2_with (first | refine wpList_build_to rfl 95 _ rfl nmA (by kernel_rfl) ?_ | (refine wpList_store_row rfl 95 _ _ rfl _ nmA rfl rfl 95 zsA (heap_alloc_last _ _) size46 same46 ones46 ?_; rw [World.setRow_alloc_new]))
      go_ret
      exact ⟨rfl, (Grown.refl _).alloc _ _⟩
  · exact rname_in op (by omega) (by omega) w
end Go.Proofs.YtdogjmimjjmmaaaDoor
