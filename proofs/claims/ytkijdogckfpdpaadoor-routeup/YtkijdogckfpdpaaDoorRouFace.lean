/-
  The examples that every statement of layer 15 asks first (known) hold.
-/
import Derived.Test.YtkijdogckfpdpaaDoorTRou
import Derived.Test.YtkijdogckfpdpaaDoorRefClean
import Derived.BigRegion
namespace Go.Proofs.YtkijdogckfpdpaaDoor
open Go.RowKit
theorem lvO_clean (S : StM) : LvO (cleanM S) := by
  refine ⟨?_⟩
  show lvC S.lvl = 0 ∨ lvC S.lvl = 1 ∨ (lvC S.lvl = 3 ∧ (S.v && !(lvC S.lvl == 3)) = false)
  rcases lvC_ways S.lvl with e | e | e
  · exact .inl e
  · exact .inr (.inl e)
  · exact .inr (.inr ⟨e, by rw [e]; simp⟩)
def kR0 : StM := ⟨fun _ => 0, 0, 0, true, fun _ => 0, 0⟩
def kR1 : StM := kR0.setC 1 4
def kR2 : StM := kR1.setC 17 4
def kR3 : StM := kR2.setC 3 512
theorem kR0_ok : kR0.Ok := ⟨fun _ _ => by unfold kR0 U; simp, by unfold kR0 U; simp, by unfold kR0 I64; simp, fun _ _ => by unfold kR0 U; simp, by unfold kR0 U; simp⟩
theorem kR1_ok : kR1.Ok := kR0_ok.setC 1 (by unfold U; omega)
theorem kR2_ok : kR2.Ok := kR1_ok.setC 17 (by unfold U; omega)
theorem kR3_ok : kR3.Ok := kR2_ok.setC 3 (by unfold U; omega)
theorem r1 : excL kR0 2 = 3 := by kernel_rfl
theorem r2 : excV kR0 2 = false := by kernel_rfl
theorem r3 : excL kR1 2 = 1 := by kernel_rfl
theorem r4 : excV kR1 2 = false := by kernel_rfl
theorem r5 : excL kR2 2 = 1 := by kernel_rfl
theorem r6 : excV kR2 2 = true := by kernel_rfl
theorem r7 : intM kR3 false true = ⟨9223372036854775817, 3, false, true⟩ := by kernel_rfl
theorem r8 : intM kR3 true false = ⟨0, 0, false, false⟩ := by kernel_rfl
theorem r9 : enI kR3 true true = 512 := by kernel_rfl
theorem st_kept16 {w w' : World} {b : Nat} {S : StM} (h : StAt w b S) (g : Kept w w') : StAt w' b S := World.rowIs.of_block h (g.same b (World.rowIs.lt h) id)
/-- The state's room, made by the call itself. -/
structure SR (W w : World) (b : Nat) (S : StM) : Prop where
  s : StAt w b S
  k : Kept W w
  hb : W.heap.size ≤ b
theorem SR.kept {W w w' : World} {b : Nat} {S : StM} (h : SR W w b S) (g : Kept w w') : SR W w' b S := ⟨st_kept16 h.s g, h.k.then g, h.hb⟩
theorem SR.set {W w : World} {b : Nat} {S : StM} (h : SR W w b S) {i : Nat} (hi : i < 29) (x : Int) : SR W (w.setCell ⟨b, 35 + i, none⟩ (.int .u64 x)) b (S.setC i x) := ⟨h.s.set hi x, h.k.new (Only.setCell (Only.refl (fun i => i = b) w) (x := ⟨b, 35 + i, none⟩) rfl _) fun j hj => by rw [hj]; exact h.hb, h.hb⟩
theorem SR.put {W w : World} {b : Nat} {S T : StM} (h : SR W w b S) {i : Nat} (x : Value) (e : ∀ j, stF T j = if j = i then x else stF S j) : SR W (w.setCell ⟨b, i, none⟩ x) b T := ⟨(World.rowIs.set h.s i x).congr fun j _ => by rw [e j], h.k.new (Only.setCell (Only.refl (fun i => i = b) w) (x := ⟨b, i, none⟩) rfl _) fun j hj => by rw [hj]; exact h.hb, h.hb⟩
theorem sr_new {W w : World} (k : Kept W w) (S : StM) : SR W (w.alloc (.cells (rowOf 65 (stF S)) 26)) w.heap.size S := ⟨st_new w S, k.alloc _, k.size⟩
set_option maxRecDepth 10000 in
set_option maxHeartbeats 4000000 in
theorem known15_any {W w : World} (hT : Tab15 W) (k : Kept W w) :
    Calls Tryd.prog 7 #[] w fun e w' => e = .returned (.bool true) ∧ Kept W w' := by
  have u2 : U 2 := by unfold U; omega
  have s1 := sr_new k kR0
  go_enter Tryd.func7, Tryd.ntmps7
  go_upto_region 2 with (first | refine wpList_built rfl 26 _ rfl (rowOf 65 (stF kR0)) (by kernel_rfl) ?_ | refine wpList_alloc_is rfl 26 rfl (rowOf 65 zF) st_zero ?_ | (refine wpList_store_is rfl 26 _ _ rfl rfl rfl (row_alloc _ 65 zF _) st_size (fun i _ => stF_one _ i) ?_; rw [World.setRow_alloc_new]))
  try simp only [Act.put]
  generalize w.alloc (.cells (rowOf 65 (stF kR0)) 26) = w1 at s1 ⊢
  generalize w.heap.size = sb at s1 ⊢
  clear k
  go_wp2_with (first | (refine wpList_load_is (by rfl) 26 _ rfl rfl s1.s _ Tryd.underlying26 rfl st_size ?_))
  refine (rtexc_any (hT.kept s1.k) kR0_ok u2).mono ?_
  rintro r w2 ⟨rfl, k2⟩
  rw [r1, r2]
  have s2 := s1.kept k2
  have v2 := s2.s.cell (i := 36) (by omega)
  have f2 := s2.s.frozen 36
  have s3 : SR W (w2.setCell ⟨sb, 36, none⟩ (.int .u64 4)) sb kR1 := s2.set (i := 1) (by omega) 4
  clear s1 k2
  go_upto_region 4 with fail
  clear s2 v2 f2
  generalize w2.setCell ⟨sb, 36, none⟩ (.int .u64 4) = w3 at s3 ⊢
  go_wp2_with (first | (refine wpList_load_is (by rfl) 26 _ rfl rfl s3.s _ Tryd.underlying26 rfl st_size ?_))
  refine (rtexc_any (hT.kept s3.k) kR1_ok u2).mono ?_
  rintro r w4 ⟨rfl, k4⟩
  rw [r3, r4]
  have s4 := s3.kept k4
  have v4 := s4.s.cell (i := 52) (by omega)
  have f4 := s4.s.frozen 52
  have s5 : SR W (w4.setCell ⟨sb, 52, none⟩ (.int .u64 4)) sb kR2 := s4.set (i := 17) (by omega) 4
  clear s3 k4
  go_upto_region 6 with fail
  clear s4 v4 f4
  generalize w4.setCell ⟨sb, 52, none⟩ (.int .u64 4) = w5 at s5 ⊢
  go_wp2_with (first | (refine wpList_load_is (by rfl) 26 _ rfl rfl s5.s _ Tryd.underlying26 rfl st_size ?_))
  refine (rtexc_any (hT.kept s5.k) kR2_ok u2).mono ?_
  rintro r w6 ⟨rfl, k6⟩
  rw [r5, r6]
  have s6 := s5.kept k6
  have v6 := s6.s.cell (i := 38) (by omega)
  have f6 := s6.s.frozen 38
  have s7 : SR W (w6.setCell ⟨sb, 38, none⟩ (.int .u64 512)) sb kR3 := s6.set (i := 3) (by omega) 512
  clear s5 k6
  go_upto_region 8 with fail
  clear s6 v6 f6
  generalize w6.setCell ⟨sb, 38, none⟩ (.int .u64 512) = w7 at s7 ⊢
  go_wp2_with (first | (refine wpList_load_is (by rfl) 26 _ rfl rfl s7.s _ Tryd.underlying26 rfl st_size ?_))
  refine (rtint_any (hT.kept s7.k) kR3_ok ⟨.inl rfl⟩ false true).mono ?_
  rintro r w8 ⟨rfl, k8⟩
  rw [r7]
  have s8 := s7.kept k8
  clear s7 k8
  unfold intV
  go_wp2_with (first | (refine wpList_load_is (by rfl) 26 _ rfl rfl s8.s _ Tryd.underlying26 rfl st_size ?_))
  refine (rtint_any (hT.kept s8.k) kR3_ok ⟨.inl rfl⟩ true false).mono ?_
  rintro r w9 ⟨rfl, k9⟩
  rw [r8]
  have s9 := s8.kept k9
  clear s8 k9
  unfold intV
  go_wp2_with (first | (refine wpList_load_is (by rfl) 26 _ rfl rfl s9.s _ Tryd.underlying26 rfl st_size ?_))
  refine (rtena_any (hT.kept s9.k) kR3_ok true true).mono ?_
  rintro r w10 ⟨rfl, k10⟩
  rw [r9]
  have s10 := s9.kept k10
  clear s9 k10
  go_wp2_with fail
  go_ret
  exact ⟨rfl, s10.k⟩
end Go.Proofs.YtkijdogckfpdpaaDoor
