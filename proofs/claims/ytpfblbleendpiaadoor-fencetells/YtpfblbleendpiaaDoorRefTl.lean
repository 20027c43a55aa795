/-
  Where an entry is, as the document's own call answers: walked whole, for every argument.
-/
import Derived.Test.YtpfblbleendpiaaDoorTlDoc
import Derived.Test.YtpfblbleendpiaaDoorRowIs
namespace Go.Proofs.YtpfblbleendpiaaDoor
open Go.RowKit
theorem find_step {h : Nat → Bool} {j : Nat} (hj : j < 16) (hf : findF h 16 0 = findF h (16 - j) j) (hn : h j = false) : findF h 16 0 = findF h (16 - (j + 1)) (j + 1) := by
  rw [hf, show 16 - j = (16 - (j + 1)) + 1 by omega, findF, hn, cond_false]
theorem find_here {h : Nat → Bool} {j : Nat} (hj : j < 16) (hf : findF h 16 0 = findF h (16 - j) j) (hn : h j = true) : findF h 16 0 = (j : Int) := by
  rw [hf, show 16 - j = (16 - (j + 1)) + 1 by omega, findF, hn, cond_true]
theorem find_end {h : Nat → Bool} (hf : findF h 16 0 = findF h (16 - 16) 16) : findF h 16 0 = -1 := by
  rw [hf]; rfl
theorem ways5 (a b c d e : Bool) :
    (a = false ∧ (a && (b && (c && (d && e)))) = false) ∨ (a = true ∧ b = false ∧ (a && (b && (c && (d && e)))) = false) ∨ (a = true ∧ b = true ∧ c = false ∧ (a && (b && (c && (d && e)))) = false) ∨
    (a = true ∧ b = true ∧ c = true ∧ d = false ∧ (a && (b && (c && (d && e)))) = false) ∨ (a = true ∧ b = true ∧ c = true ∧ d = true ∧ e = false ∧ (a && (b && (c && (d && e)))) = false) ∨
    (a = true ∧ b = true ∧ c = true ∧ d = true ∧ e = true ∧ (a && (b && (c && (d && e)))) = true) := by
  cases a <;> cases b <;> cases c <;> cases d <;> cases e <;> simp
section
variable {w : World} {b : Nat} {T : Nat → EntM}
set_option maxRecDepth 10000 in
set_option maxHeartbeats 2000000 in
theorem rtat_any (ht : TlAt w b T) (page : Int) (v : Bool) (asid vmid : Int) :
    Calls Tryd.prog 33 #[.pointer (some ⟨b, 0, none⟩), .int .i64 page, .bool v, .int .i64 asid, .int .i64 vmid] w fun e w' => e = .returned (.int .i64 (atT T page v asid vmid)) ∧ Kept w w' := by
  unfold atT
  generalize hh : hitP T page v asid vmid = h
  go_enter Tryd.func33, Tryd.ntmps33
  go_wp2_with fail
  go_loopw [11] (fun i wr => ∃ j : Nat, j ≤ 16 ∧ i = .int .i64 (j : Int) ∧ findF h 16 0 = findF h (16 - j) j ∧ Kept w wr) (fun i _ => 16 - (intOf i).toNat)
  case atStart => exact ⟨0, by omega, rfl, rfl, Only.refl _ _⟩
  case round =>
    obtain ⟨j, hj, rfl, hf, hg⟩ := hrel
    by_cases hlt : j < 16
    · have hlt' : (j : Int) < 16 := by omega
      have hj0 : (0 : Int) ≤ (j : Int) := by omega
      have hr := (ht.kept hg).at_ j hlt
      have hkeep : findF h 16 0 = findF h (16 - j) j := hf
      clear hf
      go_upto_region 5 with (first | (refine wpList_load_mid rfl 47 _ rfl b (j * 9) rfl (entA (T j)) _ hr Tryd.underlying47 rfl (ent_size' _) ?_) | (refine wpList_alloc_go rfl 47 rfl (entA entNone).toArray ent_zero' ?_; intro eb wa na ka ma ea) | (refine wpList_store_go rfl 47 _ _ rfl eb (entA (T j)).toArray rfl rfl ea (ent_size' _) ((ent_len _).trans (ent_len _).symm) (ent_ones' _) ?_; intro wb ob fb))
      have hk : Kept w wb := hg.then (ka.new ob fun i hi => by omega)
      have c0 : _ = some (Value.bool (T j).valid) := fb.cell 0
      have c1 : _ = some (Value.bool (T j).v) := fb.cell 1
      have c2 : _ = some (Value.int .i64 (T j).page) := fb.cell 2
      have c3 : _ = some (Value.int .i64 (T j).asid) := fb.cell 3
      have c4 : _ = some (Value.int .i64 (T j).vmid) := fb.cell 4
      have hj' : h j = hitE page v asid vmid (T j) := by rw [← hh]; rfl
      unfold hitE at hj'
      clear hr ka ea ob fb hg
      generalize (T j).valid = x0 at *
      generalize (T j).v = x1 at *
      generalize (T j).page = x2 at *
      generalize (T j).asid = x3 at *
      generalize (T j).vmid = x4 at *
      rcases ways5 x0 (x2 == page) (x1 == v) (x3 == asid) (x4 == vmid) with ⟨rfl, d9⟩ | ⟨rfl, d2, d9⟩ | ⟨rfl, d2, d1, d9⟩ | ⟨rfl, d2, d1, d3, d9⟩ | ⟨rfl, d2, d1, d3, d4, d9⟩ | ⟨rfl, d2, d1, d3, d4, d9⟩ <;> rw [d9] at hj' <;> clear d9
      iterate 5
        · have hn := find_step hlt hkeep hj'
          clear hj' hkeep hh
          go_wp2_with fail
          exact ⟨⟨j + 1, by omega, by go_num, hn, hk⟩, by simp [intOf]; omega⟩
      have hn := find_here hlt hkeep hj'
      clear hj' hkeep hh
      go_wp2_with fail
      go_ret
      exact ⟨by rw [hn]; rfl, hk⟩
    · obtain rfl : j = 16 := by omega
      go_wp2
      go_ret
      exact ⟨by rw [find_end hf]; rfl, hg⟩
end
end Go.Proofs.YtpfblbleendpiaaDoor
