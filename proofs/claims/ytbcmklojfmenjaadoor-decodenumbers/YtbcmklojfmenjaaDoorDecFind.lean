/-
  What package decode's find answers: its loops over the listed tables, walked for every word.
-/
import Derived.Test.YtbcmklojfmenjaaDoorDecTab
namespace Go.Proofs.YtbcmklojfmenjaaDoor
open Go.RowKit
structure Three (w : World) (b : Nat) (x y z : Value) : Prop where
  c0 : w.cell? ⟨b, 0, none⟩ = some x
  c1 : w.cell? ⟨b, 1, none⟩ = some y
  c2 : w.cell? ⟨b, 2, none⟩ = some z
theorem Three.new {w w' : World} {t : TypeId} {x y z : Value} (g : Grown (w.alloc (.cells #[x, y, z] t)) w') : Three w' w.heap.size x y z :=
  ⟨Grown.cell g (by simp), Grown.cell g (by simp), Grown.cell g (by simp)⟩
set_option maxRecDepth 100000 in
set_option maxHeartbeats 4000000 in
theorem find_hit (v : Int) (n : Nat) (hn0 : 1 ≤ n) (hn1 : n < 70) (hno : ∀ j : Nat, 1 ≤ j → j < n → tellB j v = false) (hyes : tellB n v = true) (w : World) (hG : TabG w) (hH : TabH w) :
    Calls Tryd.prog 17 #[.int .u32 v] w fun e w' => e = .returned (.tuple #[.int .i64 n, .int .u32 (bits .andNot .u32 v (tlI n))]) ∧ Grown w w' := by
  obtain ⟨hK, hK1, hK2⟩ := d_ops ⟨n, hn1⟩ hn0
  simp only at hK hK1 hK2
  go_enter Tryd.func17, Tryd.ntmps17
  go_wp2_with (refine wpList_load_list rfl 59 _ rfl 0 rfl dgL _ hG Tryd.underlying59 rfl sizeD ?_)
  go_loopw [8] (fun i wr => ∃ k : Nat, k ≤ dOf n ∧ i = .int .i64 k ∧ Grown w wr) (fun i _ => dOf n - (intOf i).toNat)
  case atStart => exact ⟨0, by omega, rfl, Grown.refl _⟩
  case round =>
    obtain ⟨k, hk1, rfl, hg⟩ := hrel
    have hx := d_row k (by omega)
    have hk11 : (k : Int) < 11 := by omega
    obtain ⟨b0, b1, b2, _, _⟩ := d_group ⟨k, by omega⟩
    simp only at b0 b1 b2
    unfold dR at hx
    by_cases hlt : k < dOf n
    · have hm := d_mono ⟨k, by omega⟩ ⟨n, hn1⟩ hn0 hlt
      simp only at hm
      go_wp2
      go_loopw [6] (fun i wi => ∃ o : Nat, dN k 1 ≤ o ∧ (o : Int) ≤ dN k 2 + 1 ∧ i = .int .i64 o ∧ Grown (wr.alloc (.cells #[.int .u32 (dN k 0), .int .i64 (dN k 1), .int .i64 (dN k 2)] 58)) wi) (fun i _ => 70 - (intOf i).toNat)
      case atStart => exact ⟨(dN k 1).toNat, by omega, by omega, by rw [Int.toNat_of_nonneg (by omega)], Grown.refl _⟩
      case round =>
        obtain ⟨o, ho0, ho1, rfl, hgi⟩ := hrel
        obtain ⟨c0, c1, c2⟩ := Three.new hgi
        by_cases hle : (o : Int) ≤ dN k 2
        · have ch := (hH.grown (Grown.trans' (hg.alloc _ _) hgi)).cell o (by omega)
          have ho70 : (o : Int) < 70 := by omega
          have hp := hno o (by omega) (by omega)
          unfold tellB tlI at hp
          rw [d_in ⟨k, by omega⟩ ⟨o, by omega⟩ ho0 (by omega)] at hp
          simp only at hp
          go_wp2
          go_region
          go_wp2
          refine ⟨⟨o + 1, by omega, by omega, by simp, hgi.drew⟩, ?_⟩
          simp [intOf]
          omega
        · go_wp2
          refine ⟨⟨k + 1, by omega, by simp, Grown.trans' (hg.alloc _ _) hgi⟩, ?_⟩
          simp [intOf]
          omega
    · obtain rfl : k = dOf n := by omega
      go_wp2
      go_loopw [6] (fun i wi => ∃ o : Nat, dN (dOf n) 1 ≤ o ∧ (o : Int) ≤ (n : Int) ∧ i = .int .i64 o ∧ Grown (wr.alloc (.cells #[.int .u32 (dN (dOf n) 0), .int .i64 (dN (dOf n) 1), .int .i64 (dN (dOf n) 2)] 58)) wi) (fun i _ => 70 - (intOf i).toNat)
      case atStart => exact ⟨(dN (dOf n) 1).toNat, by omega, by omega, by rw [Int.toNat_of_nonneg (by omega)], Grown.refl _⟩
      case round =>
        obtain ⟨o, ho0, ho1, rfl, hgi⟩ := hrel
        obtain ⟨c0, c1, c2⟩ := Three.new hgi
        by_cases hlo : o < n
        · have hle : (o : Int) ≤ dN (dOf n) 2 := by omega
          have ch := (hH.grown (Grown.trans' (hg.alloc _ _) hgi)).cell o (by omega)
          have ho70 : (o : Int) < 70 := by omega
          have hp := hno o (by omega) (by omega)
          unfold tellB tlI at hp
          rw [d_in ⟨dOf n, hK⟩ ⟨o, by omega⟩ ho0 (by omega)] at hp
          simp only at hp
          go_wp2
          go_region
          go_wp2
          refine ⟨⟨o + 1, by omega, by omega, by simp, hgi.drew⟩, ?_⟩
          simp [intOf]
          omega
        · obtain rfl : o = n := by omega
          have ch := (hH.grown (Grown.trans' (hg.alloc _ _) hgi)).cell o (by omega)
          have ho70 : (o : Int) < 70 := by omega
          have hp := hyes
          unfold tellB tlI at hp
          go_wp2
          go_region
          go_wp2
          go_region
          go_wp2
          go_ret2
          exact ⟨rfl, Grown.trans' (hg.alloc _ _) hgi.drew.drew⟩
set_option maxRecDepth 100000 in
set_option maxHeartbeats 4000000 in
theorem find_none (v : Int) (hno : ∀ j : Nat, 1 ≤ j → j < 70 → tellB j v = false) (w : World) (hG : TabG w) (hH : TabH w) :
    Calls Tryd.prog 17 #[.int .u32 v] w fun e w' => e = .returned (.tuple #[.int .i64 0, .int .u32 0]) ∧ Grown w w' := by
  go_enter Tryd.func17, Tryd.ntmps17
  go_wp2_with (refine wpList_load_list rfl 59 _ rfl 0 rfl dgL _ hG Tryd.underlying59 rfl sizeD ?_)
  go_loopw [8] (fun i wr => ∃ k : Nat, k ≤ 11 ∧ i = .int .i64 k ∧ Grown w wr) (fun i _ => 11 - (intOf i).toNat)
  case atStart => exact ⟨0, by omega, rfl, Grown.refl _⟩
  case round =>
    obtain ⟨k, hk1, rfl, hg⟩ := hrel
    by_cases hlt : k < 11
    · have hx := d_row k (by omega)
      have hk11 : (k : Int) < 11 := by omega
      obtain ⟨b0, b1, b2, _, _⟩ := d_group ⟨k, by omega⟩
      simp only at b0 b1 b2
      unfold dR at hx
      go_wp2
      go_loopw [6] (fun i wi => ∃ o : Nat, dN k 1 ≤ o ∧ (o : Int) ≤ dN k 2 + 1 ∧ i = .int .i64 o ∧ Grown (wr.alloc (.cells #[.int .u32 (dN k 0), .int .i64 (dN k 1), .int .i64 (dN k 2)] 58)) wi) (fun i _ => 70 - (intOf i).toNat)
      case atStart => exact ⟨(dN k 1).toNat, by omega, by omega, by rw [Int.toNat_of_nonneg (by omega)], Grown.refl _⟩
      case round =>
        obtain ⟨o, ho0, ho1, rfl, hgi⟩ := hrel
        obtain ⟨c0, c1, c2⟩ := Three.new hgi
        by_cases hle : (o : Int) ≤ dN k 2
        · have ch := (hH.grown (Grown.trans' (hg.alloc _ _) hgi)).cell o (by omega)
          have ho70 : (o : Int) < 70 := by omega
          have hp := hno o (by omega) (by omega)
          unfold tellB tlI at hp
          rw [d_in ⟨k, by omega⟩ ⟨o, by omega⟩ ho0 (by omega)] at hp
          simp only at hp
          go_wp2
          go_region
          go_wp2
          refine ⟨⟨o + 1, by omega, by omega, by simp, hgi.drew⟩, ?_⟩
          simp [intOf]
          omega
        · go_wp2
          refine ⟨⟨k + 1, by omega, by simp, Grown.trans' (hg.alloc _ _) hgi⟩, ?_⟩
          simp [intOf]
          omega
    · obtain rfl : k = 11 := by omega
      go_wp2
      go_ret2
      exact ⟨rfl, hg⟩
end Go.Proofs.YtbcmklojfmenjaaDoor
