/-
  What package mem's Same and Copy do (the landed package's): walked whole, for every argument.
-/
import Derived.Test.YtpplclenokfpeaaDoorTLay
namespace Go.Proofs.YtpplclenokfpeaaDoor
open Go.RowKit
/-- Whether two memories have the same bytes. -/
noncomputable def sameM (B C : Nat → Int) : Bool := @decide (∀ i, i < 32768 → B i = C i) (Classical.propDecidable _)
theorem text_congr {B C : Nat → Int} (a n : Nat) (h : ∀ j, j < n → B (a + j) = C (a + j)) : textF B a n = textF C a n := by
  unfold textF
  rw [List.map_congr_left fun j hj => h j (List.mem_range.1 hj)]
theorem text_same {B C : Nat → Int} (hb : ∀ i, i < 32768 → 0 ≤ B i ∧ B i < 256) (hc : ∀ i, i < 32768 → 0 ≤ C i ∧ C i < 256) : textF B 0 32768 = textF C 0 32768 ↔ ∀ i, i < 32768 → B i = C i := by
  constructor
  · intro h i hi
    have e : (textF B 0 32768).data.toList = (textF C 0 32768).data.toList := by rw [h]
    rw [text_list, text_list] at e
    have e2 := congrArg (fun l => l[i]?) e
    simp only [List.getElem?_map, List.getElem?_range hi, Option.map_some, Option.some.injEq, Nat.zero_add] at e2
    rw [← byte_back _ (hb i hi), ← byte_back _ (hc i hi), e2]
  · intro h
    exact text_congr 0 32768 fun j hj => by rw [Nat.zero_add]; exact h j hj
theorem str_beq (x y : ByteArray) : (x.toList == y.toList) = decide (x = y) := by
  rw [ByteArray.toList_eq, ByteArray.toList_eq]
  apply Bool.eq_iff_iff.2
  rw [beq_iff_eq, decide_eq_true_iff]
  constructor
  · intro h
    cases x; cases y
    congr 1
    exact Array.toList_inj.1 h
  · rintro rfl; rfl
theorem same_text {B C : Nat → Int} (hb : ∀ i, i < 32768 → 0 ≤ B i ∧ B i < 256) (hc : ∀ i, i < 32768 → 0 ≤ C i ∧ C i < 256) : ((textF B 0 32768).toList == (textF C 0 32768).toList) = sameM B C := by
  rw [str_beq]
  unfold sameM
  rw [decide_eq_decide]
  exact text_same hb hc
/-- New bytes, as a world of its own. -/
theorem make_new (w : World) : ∃ W0 : World, (∀ n : Int, n = 32768 → (Instr.makeSlice 56 (.int .i64 n) (.int .i64 n)).run Tryd.prog w = .ok (.slice (some ⟨w.heap.size, 0, none⟩) 32768 32768) W0) ∧
    Kept w W0 ∧ (∀ T, MemAt T 5 (W0.alloc (.cells #[.slice (some ⟨w.heap.size, 0, none⟩) 32768 32768] T)) W0.heap.size w.heap.size (fun _ => 0)) := by
  refine ⟨w.alloc (.cells zrow 5), ?_, (Only.refl _ w).alloc _, fun T => ?_⟩
  · rintro n rfl; exact make_mem w
  · rw [Go.Deep.nblk_alloc]; exact mem_new T w
end Go.Proofs.YtpplclenokfpeaaDoor
