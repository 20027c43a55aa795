/-
  All that are there, as the document's own call answers: walked whole.
-/
import Derived.Test.YtpfblbleendpiaaDoorRefTl2
import Derived.Test.YtpfblbleendpiaaDoorOwnEnt
namespace Go.Proofs.YtpfblbleendpiaaDoor
open Go.RowKit
section
variable {w : World} {b : Nat} {T : Nat → EntM}
theorem TlAt.cell (ht : TlAt w b T) (j : Nat) (hj : j < 16) (k : Nat) (v : Value) (hv : (entA (T j))[k]? = some v) : w.cell? ⟨b, j * 9 + k, none⟩ = some v := ht.at_ j hj k v hv
set_option maxRecDepth 10000 in
set_option maxHeartbeats 2000000 in
theorem rtall_any (ht : TlAt w b T) :
    Calls Tryd.prog 16 #[.pointer (some ⟨b, 0, none⟩)] w fun e w' => ∃ v, e = .returned v ∧ OwnE w.heap.size w' v (allT T) ∧ Kept w w' := by
  go_enter Tryd.func16, Tryd.ntmps16
  go_wp2_with fail
  go_loopw [4, 3] (fun i l wr => ∃ (j : Nat) (v : Value), j ≤ 16 ∧ i = .int .i64 (j : Int) ∧ l = v ∧ OwnE w.heap.size wr v (allF T j 0) ∧ Kept w wr) (fun i _ _ => 16 - (intOf i).toNat)
  case atStart => exact ⟨0, _, by omega, rfl, rfl, ownE_nil _ _, Only.refl _ _⟩
  case round =>
    obtain ⟨j, v, hj, rfl, rfl, ho, hg⟩ := hrel
    by_cases hlt : j < 16
    · have hlt' : (j : Int) < 16 := by omega
      have hj0 : (0 : Int) ≤ (j : Int) := by omega
      have hr := (ht.kept hg).at_ j hlt
      have c0 : wr.cell? ⟨b, j * 9, none⟩ = some (.bool (T j).valid) := (ht.kept hg).cell j hlt 0 _ rfl
      have hs := all_snoc T j 0
      rw [Nat.zero_add] at hs
      have hlen := all_len T j 0
      have hkeep : j < 16 := hlt
      obtain ⟨q, cap, rfl⟩ := ho.form
      cases hv : (T j).valid
      · rw [hv, cond_false, List.append_nil] at hs
        rw [hv] at c0
        clear hr
        go_wp2_with fail
        exact ⟨⟨j + 1, _, by omega, by go_num, rfl, by rw [hs]; exact ho, hg⟩, by simp [intOf]; omega⟩
      · rw [hv, cond_true] at hs
        rw [hv] at c0
        go_upto_region 4 with (first | (refine wpList_load_mid rfl 47 _ rfl b (j * 9) rfl (entA (T j)) _ hr Tryd.underlying47 rfl (ent_size' _) ?_) | (refine wpList_slice1 rfl _ rfl (T j) rfl ?_; intro sb wa na ka ma ea) | (at_builtin; refine wpList_appE rfl _ _ rfl rfl (ho.kept ka) sb (T j) rfl ea.range (by omega) (by have := hg.size; have := ka.size; omega) ?_; intro gb gc wb owb gob))
        have hk : Kept w wb := (hg.then ka).new gob fun i hi => hi.1
        go_wp2_with fail
        exact ⟨⟨j + 1, _, by omega, by go_num, rfl, by rw [hs]; exact owb, hk⟩, by simp [intOf]; omega⟩
    · obtain rfl : j = 16 := by omega
      obtain ⟨q, cap, rfl⟩ := ho.form
      go_wp2
      go_ret
      exact ⟨_, rfl, ho, hg⟩
end
end Go.Proofs.YtpfblbleendpiaaDoor
