/-
  What statement RouteUp asks: a trap never goes below where it came from. Walked over the contracts.
-/
import Derived.Test.YtkijdogckfpdpaaDoorRouFace
import Derived.Test.YtkijdogckfpdpaaDoorRouMath2
namespace Go.Proofs.YtkijdogckfpdpaaDoor
open Go.RowKit
theorem ng9 : bits .andNot .u64 9223372036854775817 9223372036854775808 = 9 := by kernel_rfl
theorem ng5 : bits .andNot .u64 9223372036854775813 9223372036854775808 = 5 := by kernel_rfl
theorem ng10 : bits .andNot .u64 9223372036854775818 9223372036854775808 = 10 := by kernel_rfl
theorem ng6 : bits .andNot .u64 9223372036854775814 9223372036854775808 = 6 := by kernel_rfl
structure EnAll (w : World) (C : StM) (t l : Bool) (on : Int) : Prop where
  a : Calls Tryd.prog 13 #[.agg (rowOf 65 (stF C)), .bool t, .bool l] w fun e w' => e = .returned (.int .u64 on) ∧ Kept w w'
theorem wpList_go15 {ops : Array Oper} {rest : List Oper} {o : Oper} {a : Act} {w : World} {Q : Exit → Act → World → Prop} {v : Value} (hw : Region.wanted o (yielded ops a.tmps) = true) (he : (execOp a.eval o).run Tryd.prog w = .ok (.value v) w) (h : wpList Tryd.prog ops Q rest (a.put o.dst v) w) : wpList Tryd.prog ops Q (o :: rest) a w :=
  BigFrame.wpList_want hw fun _ hK => wp_of_exec he (hK _ _ h)
set_option maxRecDepth 100000 in
set_option maxHeartbeats 16000000 in
theorem rup15 (S : StM) (c : Int) (t l : Bool) (hS : S.Ok) (hc : U c) {W : World} (hT : Tab15 W) :
    Calls Tryd.prog 4 #[.agg (rowOf 65 (stF S)), .int .u64 c, .bool t, .bool l] W fun e w' => e = .returned (.bool true) ∧ Kept W w' := by
  have h0 := st_new W S
  have k0 := (Only.refl (fun _ => False) W).alloc (.cells (rowOf 65 (stF S)) 26)
  have hC := cleanM_ok hS
  have hLo := lvO_clean S
  have hCl := cln_clean hS
  go_enter Tryd.func4, Tryd.ntmps4
  go_upto_region 1 with fail
  generalize W.alloc (.cells (rowOf 65 (stF S)) 26) = w0 at *
  generalize W.heap.size = bb at h0
  go_wp2_with fail
  refine (known15_any (hT.kept k0) (Only.refl _ w0)).mono ?_
  rintro e w1 ⟨rfl, k1⟩
  have h1 := st_kept16 h0 k1
  have k2 : Kept W w1 := k0.then k1
  clear h0 k0 k1
  go_upto_region 4 with (first | (refine wpList_load_is (by rfl) 26 _ rfl rfl h1 _ Tryd.underlying26 rfl st_size ?_) | (go_at_call 8; refine (rclean_any S _).mono ?_; rintro e w2 ⟨rfl, k3⟩) | refine wpList_alloc_is rfl 26 rfl (rowOf 65 zF) st_zero ?_ | (refine wpList_store_is rfl 26 _ _ rfl rfl rfl (row_alloc _ 65 zF _) st_size (fun i _ => stF_one _ i) ?_; rw [World.setRow_alloc_new]))
  generalize cleanM S = C at *
  have s2 := sr_new (k2.then k3) C
  try simp only [Act.put]
  generalize w2.alloc (.cells (rowOf 65 (stF C)) 26) = wx at s2 ⊢
  generalize w2.heap.size = sb at s2 ⊢
  clear k2 k3 h1
  have q9 := ng9
  have q5 := ng5
  have q10 := ng10
  have q6 := ng6
  go_wp2_with (first | (refine wpList_load_is (by rfl) 26 _ rfl rfl s2.s _ Tryd.underlying26 rfl st_size ?_))
  refine (rtexc_any (hT.kept s2.k) hC hc).mono ?_
  rintro r w3 ⟨rfl, k3⟩
  have s3 := s2.kept k3
  clear s2 k3
  have he := exc_ways hCl c
  have hi := int_ways hCl t l
  have n3 := hCl.lvl
  have p3 : (3 : Int) ≥ C.lvl := by omega
  generalize excL C c = a at *
  generalize excV C c = v at *
  go_wp2_with (first | (refine wpList_load_is (by rfl) 26 _ rfl rfl s3.s _ Tryd.underlying26 rfl st_size ?_))
  refine (rtint_any (hT.kept s3.k) hC hLo t l).mono ?_
  rintro r w4 ⟨rfl, k4⟩
  unfold intV
  have s4 := s3.kept k4
  clear s3 k4
  have hen : EnAll w4 C t l (enI C t l) := ⟨rtena_any (hT.kept s4.k) hC t l⟩
  generalize intM C t l = M at *
  generalize enI C t l = on at *
  clear hT hCl
  have hlv : C.lvl = 0 ∨ C.lvl = 1 ∨ C.lvl = 3 := by omega
  rcases hi with rfl | ⟨ho, ⟨k, rfl | rfl, rfl⟩ | ⟨hl, k, rfl | rfl | rfl | rfl, rfl⟩ | ⟨hv, hl, k, rfl | rfl, rfl⟩⟩ <;> rcases he with ⟨rfl, rfl⟩ | ⟨rfl, rfl, hl2⟩ | ⟨rfl, rfl, hv2, hl2⟩ <;> rcases hlv with e | e | e
  all_goals try (exfalso; omega)
  all_goals
    have cl := st_lvl s4.s
    have cv := st_v s4.s
    rw [e] at cl
    first | rw [hv] at cv | rw [hv2] at cv | skip
    clear n3 p3 e
    try clear hl
    try clear hl2
    try clear hv
    try clear hv2
  iterate 7
    · go_wp2_with fail
      go_ret
      exact ⟨rfl, s4.k⟩
  all_goals
    go_upto_region 11 with fail
    go_wp2_with (first | go_skip | (refine wpList_load_is (by rfl) 26 _ rfl rfl s4.s _ Tryd.underlying26 rfl st_size ?_))
    refine hen.a.mono ?_
    rintro r w5 ⟨rfl, k5⟩
    go_wp2_with fail
    go_ret
    exact ⟨rfl, s4.k.then k5⟩
end Go.Proofs.YtkijdogckfpdpaaDoor
