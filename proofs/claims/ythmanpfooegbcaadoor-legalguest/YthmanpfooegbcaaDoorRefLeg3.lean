/-
  Who may touch a register of control, as the document's own rules answer it (Csr of the reference): walked whole, for every argument.
-/
import Derived.Test.YthmanpfooegbcaaDoorRefLeg2
namespace Go.Proofs.YthmanpfooegbcaaDoor
open Go.RowKit
set_option maxRecDepth 10000 in
set_option maxHeartbeats 1000000 in
theorem rcsr_none {S : StM} (n : Int) (wr : Bool) (ho : okC n = false) (w : World) :
    Calls Tryd.prog 11 #[.agg (rowOf 65 (stF S)), .int .i64 n, .bool wr] w fun e w' => e = .returned (.tuple #[.int .u64 2, .bool false]) ∧ Kept w w' := by
  have h1 := st_new w S
  go_enter Tryd.func11, Tryd.ntmps11
  go_wp2_with (refine wpList_load_is (by rfl) 26 _ rfl rfl h1 _ Tryd.underlying26 rfl st_size ?_)
  refine (rread_any8 _ _).mono ?_
  rintro e w1 ⟨rfl, k1⟩
  have h2 := h1.kept k1
  rw [ho]
  go_wp2_with (refine wpList_load_is (by rfl) 26 _ rfl rfl h2 _ Tryd.underlying26 rfl st_size ?_)
  refine (rlevel_any S _).mono ?_
  rintro e w2 ⟨rfl, k2⟩
  have h3 := h2.kept k2
  generalize lvlI S = l
  go_wp2_with fail
  go_ret2
  exact ⟨rfl, kept_boxed (k1.then k2)⟩
set_option maxRecDepth 10000 in
set_option maxHeartbeats 1000000 in
theorem rcsr_high {S : StM} (n : Int) (wr : Bool) (ho : okC n = true) (hw : wr = true) (hn : 3072 ≤ n) (w : World) :
    Calls Tryd.prog 11 #[.agg (rowOf 65 (stF S)), .int .i64 n, .bool wr] w fun e w' => e = .returned (.tuple #[.int .u64 2, .bool false]) ∧ Kept w w' := by
  have h1 := st_new w S
  subst hw
  go_enter Tryd.func11, Tryd.ntmps11
  go_wp2_with (refine wpList_load_is (by rfl) 26 _ rfl rfl h1 _ Tryd.underlying26 rfl st_size ?_)
  refine (rread_any8 _ _).mono ?_
  rintro e w1 ⟨rfl, k1⟩
  have h2 := h1.kept k1
  rw [ho]
  go_wp2_with (refine wpList_load_is (by rfl) 26 _ rfl rfl h2 _ Tryd.underlying26 rfl st_size ?_)
  refine (rlevel_any S _).mono ?_
  rintro e w2 ⟨rfl, k2⟩
  have h3 := h2.kept k2
  generalize lvlI S = l
  go_wp2_with fail
  go_ret2
  exact ⟨rfl, kept_boxed (k1.then k2)⟩
set_option maxRecDepth 10000 in
set_option maxHeartbeats 1000000 in
theorem rcsr_pl {S : StM} (n : Int) (wr : Bool) (k l r : Int) (ho : okC n = true) (hw : wr = false ∨ (wr = true ∧ n < 3072)) (_m1 : (n == 3074) = false) (_m2 : (n == 384) = false) (hk : bits .and .i64 (n / 256) 3 = k) (hl : lvlI S = l) (h : (k = 0 ∧ l = 0 ∧ r = 0) ∨ (k = 1 ∧ l = 0 ∧ r = 2) ∨ (k = 2 ∧ l = 0 ∧ r = 2) ∨ (k = 0 ∧ l = 1 ∧ r = 0) ∨ (k = 1 ∧ l = 1 ∧ r = 0) ∨ (k = 2 ∧ l = 1 ∧ r = 0) ∨ (k = 0 ∧ l = 3 ∧ r = 0) ∨ (k = 1 ∧ l = 3 ∧ r = 0) ∨ (k = 2 ∧ l = 3 ∧ r = 0) ∨ (k = 0 ∧ l = 4 ∧ r = 22) ∨ (k = 1 ∧ l = 4 ∧ r = 22) ∨ (k = 2 ∧ l = 4 ∧ r = 22) ∨ (k = 3 ∧ l = 4 ∧ r = 2) ∨ (k = 0 ∧ l = 5 ∧ r = 0) ∨ (k = 1 ∧ l = 5 ∧ r = 0) ∨ (k = 2 ∧ l = 5 ∧ r = 22) ∨ (k = 3 ∧ l = 5 ∧ r = 2)) (w : World) :
    Calls Tryd.prog 11 #[.agg (rowOf 65 (stF S)), .int .i64 n, .bool wr] w fun e w' => e = .returned (.tuple #[.int .u64 r, .bool (r == 0)]) ∧ Kept w w' := by
  have h1 := st_new w S
  rcases h with ⟨rfl, rfl, rfl⟩ | ⟨rfl, rfl, rfl⟩ | ⟨rfl, rfl, rfl⟩ | ⟨rfl, rfl, rfl⟩ | ⟨rfl, rfl, rfl⟩ | ⟨rfl, rfl, rfl⟩ | ⟨rfl, rfl, rfl⟩ | ⟨rfl, rfl, rfl⟩ | ⟨rfl, rfl, rfl⟩ | ⟨rfl, rfl, rfl⟩ | ⟨rfl, rfl, rfl⟩ | ⟨rfl, rfl, rfl⟩ | ⟨rfl, rfl, rfl⟩ | ⟨rfl, rfl, rfl⟩ | ⟨rfl, rfl, rfl⟩ | ⟨rfl, rfl, rfl⟩ | ⟨rfl, rfl, rfl⟩
  all_goals rcases hw with rfl | ⟨rfl, hw⟩
  all_goals
    go_enter Tryd.func11, Tryd.ntmps11
    go_wp2_with (refine wpList_load_is (by rfl) 26 _ rfl rfl h1 _ Tryd.underlying26 rfl st_size ?_)
    refine (rread_any8 _ _).mono ?_
    rintro e w1 ⟨rfl, k1⟩
    have h2 := h1.kept k1
    rw [ho]
    go_wp2_with (refine wpList_load_is (by rfl) 26 _ rfl rfl h2 _ Tryd.underlying26 rfl st_size ?_)
    refine (rlevel_any S _).mono ?_
    rintro e w2 ⟨rfl, k2⟩
    have h3 := h2.kept k2
    rw [hl]
    go_wp2_with fail
    go_ret2
    exact ⟨rfl, kept_boxed (k1.then k2)⟩
set_option maxRecDepth 10000 in
set_option maxHeartbeats 1000000 in
theorem rcsr_nd {S : StM} (n : Int) (wr : Bool) (k l r : Int) (b : Bool) (ho : okC n = true) (hw : wr = false ∨ (wr = true ∧ n < 3072)) (_m1 : (n == 3074) = false) (_m2 : (n == 384) = false) (hk : bits .and .i64 (n / 256) 3 = k) (hl : lvlI S = l) (h : (k = 3 ∧ l = 0 ∧ b = false ∧ r = 2) ∨ (k = 3 ∧ l = 1 ∧ b = false ∧ r = 2) ∨ (k = 3 ∧ l = 3 ∧ b = true ∧ r = 0)) (w : World) :
    Calls Tryd.prog 11 #[.agg (rowOf 65 (stF S)), .int .i64 n, .bool wr] w fun e w' => e = .returned (.tuple #[.int .u64 r, .bool (r == 0)]) ∧ Kept w w' := by
  have h1 := st_new w S
  rcases h with ⟨rfl, rfl, rfl, rfl⟩ | ⟨rfl, rfl, rfl, rfl⟩ | ⟨rfl, rfl, rfl, rfl⟩
  all_goals rcases hw with rfl | ⟨rfl, hw⟩
  all_goals
    go_enter Tryd.func11, Tryd.ntmps11
    go_wp2_with (refine wpList_load_is (by rfl) 26 _ rfl rfl h1 _ Tryd.underlying26 rfl st_size ?_)
    refine (rread_any8 _ _).mono ?_
    rintro e w1 ⟨rfl, k1⟩
    have h2 := h1.kept k1
    rw [ho]
    go_wp2_with (refine wpList_load_is (by rfl) 26 _ rfl rfl h2 _ Tryd.underlying26 rfl st_size ?_)
    refine (rlevel_any S _).mono ?_
    rintro e w2 ⟨rfl, k2⟩
    have h3 := h2.kept k2
    rw [hl]
    go_wp2_with fail
    refine (rneed_any _ _).mono ?_
    rintro e w3 ⟨rfl, rfl⟩
    go_wp2_with fail
    go_ret2
    exact ⟨rfl, kept_boxed (k1.then k2)⟩
set_option maxRecDepth 10000 in
set_option maxHeartbeats 1000000 in
theorem rcsr_c02 {S : StM} (n : Int) (wr : Bool) (l r : Int) (ho : okC n = true) (hw : wr = false ∨ (wr = true ∧ n < 3072)) (hn : n = 3074) (hl : lvlI S = l) (h : (l = 4 ∧ r = 22) ∨ (l = 5 ∧ r = 22)) (w : World) :
    Calls Tryd.prog 11 #[.agg (rowOf 65 (stF S)), .int .i64 n, .bool wr] w fun e w' => e = .returned (.tuple #[.int .u64 r, .bool (r == 0)]) ∧ Kept w w' := by
  have h1 := st_new w S
  subst hn
  obtain rfl : wr = false := by
    rcases hw with h | ⟨_, h⟩
    · exact h
    · omega
  clear hw
  rcases h with ⟨rfl, rfl⟩ | ⟨rfl, rfl⟩
  all_goals
    go_enter Tryd.func11, Tryd.ntmps11
    go_wp2_with (refine wpList_load_is (by rfl) 26 _ rfl rfl h1 _ Tryd.underlying26 rfl st_size ?_)
    refine (rread_any8 _ _).mono ?_
    rintro e w1 ⟨rfl, k1⟩
    have h2 := h1.kept k1
    rw [ho]
    go_wp2_with (refine wpList_load_is (by rfl) 26 _ rfl rfl h2 _ Tryd.underlying26 rfl st_size ?_)
    refine (rlevel_any S _).mono ?_
    rintro e w2 ⟨rfl, k2⟩
    have h3 := h2.kept k2
    rw [hl]
    go_wp2_with fail
    go_ret2
    exact ⟨rfl, kept_boxed (k1.then k2)⟩
set_option maxRecDepth 10000 in
set_option maxHeartbeats 1000000 in
theorem rcsr_c02n {S : StM} (n : Int) (wr : Bool) (l r : Int) (b : Bool) (ho : okC n = true) (hw : wr = false ∨ (wr = true ∧ n < 3072)) (hn : n = 3074) (hl : lvlI S = l) (h : (l = 0 ∧ b = false ∧ r = 2) ∨ (l = 1 ∧ b = true ∧ r = 0) ∨ (l = 3 ∧ b = true ∧ r = 0)) (w : World) :
    Calls Tryd.prog 11 #[.agg (rowOf 65 (stF S)), .int .i64 n, .bool wr] w fun e w' => e = .returned (.tuple #[.int .u64 r, .bool (r == 0)]) ∧ Kept w w' := by
  have h1 := st_new w S
  subst hn
  obtain rfl : wr = false := by
    rcases hw with h | ⟨_, h⟩
    · exact h
    · omega
  clear hw
  rcases h with ⟨rfl, rfl, rfl⟩ | ⟨rfl, rfl, rfl⟩ | ⟨rfl, rfl, rfl⟩
  all_goals
    go_enter Tryd.func11, Tryd.ntmps11
    go_wp2_with (refine wpList_load_is (by rfl) 26 _ rfl rfl h1 _ Tryd.underlying26 rfl st_size ?_)
    refine (rread_any8 _ _).mono ?_
    rintro e w1 ⟨rfl, k1⟩
    have h2 := h1.kept k1
    rw [ho]
    go_wp2_with (refine wpList_load_is (by rfl) 26 _ rfl rfl h2 _ Tryd.underlying26 rfl st_size ?_)
    refine (rlevel_any S _).mono ?_
    rintro e w2 ⟨rfl, k2⟩
    have h3 := h2.kept k2
    rw [hl]
    go_wp2_with fail
    refine (rneed_any _ _).mono ?_
    rintro e w3 ⟨rfl, rfl⟩
    go_wp2_with fail
    go_ret2
    exact ⟨rfl, kept_boxed (k1.then k2)⟩
set_option maxRecDepth 10000 in
set_option maxHeartbeats 1000000 in
theorem rcsr_180 {S : StM} (n : Int) (wr : Bool) (l r : Int) (ho : okC n = true) (hw : wr = false ∨ (wr = true ∧ n < 3072)) (hn : n = 384) (hl : lvlI S = l) (h : (l = 0 ∧ r = 2) ∨ (l = 3 ∧ r = 0) ∨ (l = 4 ∧ r = 22)) (w : World) :
    Calls Tryd.prog 11 #[.agg (rowOf 65 (stF S)), .int .i64 n, .bool wr] w fun e w' => e = .returned (.tuple #[.int .u64 r, .bool (r == 0)]) ∧ Kept w w' := by
  have h1 := st_new w S
  subst hn
  rcases h with ⟨rfl, rfl⟩ | ⟨rfl, rfl⟩ | ⟨rfl, rfl⟩
  all_goals rcases hw with rfl | ⟨rfl, hw⟩
  all_goals
    go_enter Tryd.func11, Tryd.ntmps11
    go_wp2_with (refine wpList_load_is (by rfl) 26 _ rfl rfl h1 _ Tryd.underlying26 rfl st_size ?_)
    refine (rread_any8 _ _).mono ?_
    rintro e w1 ⟨rfl, k1⟩
    have h2 := h1.kept k1
    rw [ho]
    go_wp2_with (refine wpList_load_is (by rfl) 26 _ rfl rfl h2 _ Tryd.underlying26 rfl st_size ?_)
    refine (rlevel_any S _).mono ?_
    rintro e w2 ⟨rfl, k2⟩
    have h3 := h2.kept k2
    rw [hl]
    go_wp2_with fail
    go_ret2
    exact ⟨rfl, kept_boxed (k1.then k2)⟩
set_option maxRecDepth 10000 in
set_option maxHeartbeats 1000000 in
theorem rcsr_180a {S : StM} (hS : S.Ok) (n : Int) (wr : Bool) (l r : Int) (b : Bool) (ho : okC n = true) (hw : wr = false ∨ (wr = true ∧ n < 3072)) (hn : n = 384) (hb : bitB (S.C 0) 20 = b) (hl : lvlI S = l) (h : (l = 1 ∧ b = false ∧ r = 0) ∨ (l = 1 ∧ b = true ∧ r = 2)) (w : World) :
    Calls Tryd.prog 11 #[.agg (rowOf 65 (stF S)), .int .i64 n, .bool wr] w fun e w' => e = .returned (.tuple #[.int .u64 r, .bool (r == 0)]) ∧ Kept w w' := by
  have h1 := st_new w S
  subst hn
  rcases h with ⟨rfl, rfl, rfl⟩ | ⟨rfl, rfl, rfl⟩
  all_goals rcases hw with rfl | ⟨rfl, hw⟩
  all_goals
    go_enter Tryd.func11, Tryd.ntmps11
    go_wp2_with (refine wpList_load_is (by rfl) 26 _ rfl rfl h1 _ Tryd.underlying26 rfl st_size ?_)
    refine (rread_any8 _ _).mono ?_
    rintro e w1 ⟨rfl, k1⟩
    have h2 := h1.kept k1
    rw [ho]
    go_wp2_with (refine wpList_load_is (by rfl) 26 _ rfl rfl h2 _ Tryd.underlying26 rfl st_size ?_)
    refine (rlevel_any S _).mono ?_
    rintro e w2 ⟨rfl, k2⟩
    have h3 := h2.kept k2
    rw [hl]
    go_wp2_with (refine wpList_load_is (by rfl) 26 _ rfl rfl h3 _ Tryd.underlying26 rfl st_size ?_)
    refine (rbit_0 hS (k := 20) (by omega) _).mono ?_
    rintro e w3 ⟨rfl, k3⟩
    rw [hb]
    go_wp2_with fail
    go_ret2
    exact ⟨rfl, kept_boxed ((k1.then k2).then k3)⟩
set_option maxRecDepth 10000 in
set_option maxHeartbeats 1000000 in
theorem rcsr_180b {S : StM} (hS : S.Ok) (n : Int) (wr : Bool) (l r : Int) (b : Bool) (ho : okC n = true) (hw : wr = false ∨ (wr = true ∧ n < 3072)) (hn : n = 384) (hb : bitB (S.C 16) 20 = b) (hl : lvlI S = l) (h : (l = 5 ∧ b = false ∧ r = 0) ∨ (l = 5 ∧ b = true ∧ r = 22)) (w : World) :
    Calls Tryd.prog 11 #[.agg (rowOf 65 (stF S)), .int .i64 n, .bool wr] w fun e w' => e = .returned (.tuple #[.int .u64 r, .bool (r == 0)]) ∧ Kept w w' := by
  have h1 := st_new w S
  subst hn
  rcases h with ⟨rfl, rfl, rfl⟩ | ⟨rfl, rfl, rfl⟩
  all_goals rcases hw with rfl | ⟨rfl, hw⟩
  all_goals
    go_enter Tryd.func11, Tryd.ntmps11
    go_wp2_with (refine wpList_load_is (by rfl) 26 _ rfl rfl h1 _ Tryd.underlying26 rfl st_size ?_)
    refine (rread_any8 _ _).mono ?_
    rintro e w1 ⟨rfl, k1⟩
    have h2 := h1.kept k1
    rw [ho]
    go_wp2_with (refine wpList_load_is (by rfl) 26 _ rfl rfl h2 _ Tryd.underlying26 rfl st_size ?_)
    refine (rlevel_any S _).mono ?_
    rintro e w2 ⟨rfl, k2⟩
    have h3 := h2.kept k2
    rw [hl]
    go_wp2_with (refine wpList_load_is (by rfl) 26 _ rfl rfl h3 _ Tryd.underlying26 rfl st_size ?_)
    refine (rbit_16 hS (k := 20) (by omega) _).mono ?_
    rintro e w3 ⟨rfl, k3⟩
    rw [hb]
    go_wp2_with fail
    go_ret2
    exact ⟨rfl, kept_boxed ((k1.then k2).then k3)⟩
theorem rcsr_any8 {S : StM} (hS : S.Ok) (n : Int) (wr : Bool) (w : World) :
    Calls Tryd.prog 11 #[.agg (rowOf 65 (stF S)), .int .i64 n, .bool wr] w fun e w' => e = .returned (.tuple #[.int .u64 (csrC S n wr), .bool (csrC S n wr == 0)]) ∧ Kept w w' := by
  cases ho : okC n
  · have hr : csrC S n wr = 2 := by unfold csrC; rw [ho]; rfl
    rw [hr]
    exact rcsr_none n wr ho w
  · by_cases hx : wr = true ∧ 3072 ≤ n
    · have hr : csrC S n wr = 2 := by unfold csrC; rw [ho, hx.1, decide_eq_true hx.2]; rfl
      rw [hr]
      exact rcsr_high n wr ho hx.1 hx.2 w
    · have hw : wr = false ∨ (wr = true ∧ n < 3072) := by
        cases wr
        · exact .inl rfl
        · exact .inr ⟨rfl, Int.not_le.1 fun h => hx ⟨rfl, h⟩⟩
      have hz : (!okC n || (wr && decide (3072 ≤ n))) = false := by
        rw [ho]
        rcases hw with rfl | ⟨rfl, h⟩
        · rfl
        · rw [decide_eq_false (by omega)]; rfl
      by_cases n1 : n = 3074
      · have m1 : (n == 3074) = true := by rw [n1]; rfl
        have hk : whoI n = 0 := by rw [n1]; decide +kernel
        rcases lvl_ways S with hl | hl | hl | hl | hl
        · have hr : csrC S n wr = 2 := by unfold csrC; rw [hz, hl, hk, m1]; rfl
          rw [hr]
          exact rcsr_c02n n wr 0 2 false ho hw n1 hl (by simp) w
        · have hr : csrC S n wr = 0 := by unfold csrC; rw [hz, hl, hk, m1]; rfl
          rw [hr]
          exact rcsr_c02n n wr 1 0 true ho hw n1 hl (by simp) w
        · have hr : csrC S n wr = 0 := by unfold csrC; rw [hz, hl, hk, m1]; rfl
          rw [hr]
          exact rcsr_c02n n wr 3 0 true ho hw n1 hl (by simp) w
        · have hr : csrC S n wr = 22 := by unfold csrC; rw [hz, hl, hk, m1]; rfl
          rw [hr]
          exact rcsr_c02 n wr 4 22 ho hw n1 hl (by simp) w
        · have hr : csrC S n wr = 22 := by unfold csrC; rw [hz, hl, hk, m1]; rfl
          rw [hr]
          exact rcsr_c02 n wr 5 22 ho hw n1 hl (by simp) w
      · have m1 : (n == 3074) = false := beq_eq_false_iff_ne.2 n1
        by_cases n2 : n = 384
        · have m2 : (n == 384) = true := by rw [n2]; rfl
          have hk : whoI n = 1 := by rw [n2]; decide +kernel
          rcases lvl_ways S with hl | hl | hl | hl | hl
          · have hr : csrC S n wr = 2 := by unfold csrC; rw [hz, hl, hk, m1, m2]; rfl
            rw [hr]
            exact rcsr_180 n wr 0 2 ho hw n2 hl (by simp) w
          · cases hb : bitB (S.C 0) 20
            · have hr : csrC S n wr = 0 := by unfold csrC; rw [hz, hl, hk, m1, m2, hb]; rfl
              rw [hr]
              exact rcsr_180a hS n wr 1 0 false ho hw n2 hb hl (by simp) w
            · have hr : csrC S n wr = 2 := by unfold csrC; rw [hz, hl, hk, m1, m2, hb]; rfl
              rw [hr]
              exact rcsr_180a hS n wr 1 2 true ho hw n2 hb hl (by simp) w
          · have hr : csrC S n wr = 0 := by unfold csrC; rw [hz, hl, hk, m1, m2]; rfl
            rw [hr]
            exact rcsr_180 n wr 3 0 ho hw n2 hl (by simp) w
          · have hr : csrC S n wr = 22 := by unfold csrC; rw [hz, hl, hk, m1, m2]; rfl
            rw [hr]
            exact rcsr_180 n wr 4 22 ho hw n2 hl (by simp) w
          · cases hb : bitB (S.C 16) 20
            · have hr : csrC S n wr = 0 := by unfold csrC; rw [hz, hl, hk, m1, m2, hb]; rfl
              rw [hr]
              exact rcsr_180b hS n wr 5 0 false ho hw n2 hb hl (by simp) w
            · have hr : csrC S n wr = 22 := by unfold csrC; rw [hz, hl, hk, m1, m2, hb]; rfl
              rw [hr]
              exact rcsr_180b hS n wr 5 22 true ho hw n2 hb hl (by simp) w
        · have m2 : (n == 384) = false := beq_eq_false_iff_ne.2 n2
          rcases lvl_ways S with hl | hl | hl | hl | hl
          · rcases who_ways n with hk | hk | hk | hk
            · have hr : csrC S n wr = 0 := by unfold csrC; rw [hz, hl, hk, m1, m2]; rfl
              rw [hr]
              exact rcsr_pl n wr 0 0 0 ho hw m1 m2 hk hl (by simp) w
            · have hr : csrC S n wr = 2 := by unfold csrC; rw [hz, hl, hk, m1, m2]; rfl
              rw [hr]
              exact rcsr_pl n wr 1 0 2 ho hw m1 m2 hk hl (by simp) w
            · have hr : csrC S n wr = 2 := by unfold csrC; rw [hz, hl, hk, m1, m2]; rfl
              rw [hr]
              exact rcsr_pl n wr 2 0 2 ho hw m1 m2 hk hl (by simp) w
            · have hr : csrC S n wr = 2 := by unfold csrC; rw [hz, hl, hk, m1, m2]; rfl
              rw [hr]
              exact rcsr_nd n wr 3 0 2 false ho hw m1 m2 hk hl (by simp) w
          · rcases who_ways n with hk | hk | hk | hk
            · have hr : csrC S n wr = 0 := by unfold csrC; rw [hz, hl, hk, m1, m2]; rfl
              rw [hr]
              exact rcsr_pl n wr 0 1 0 ho hw m1 m2 hk hl (by simp) w
            · have hr : csrC S n wr = 0 := by unfold csrC; rw [hz, hl, hk, m1, m2]; rfl
              rw [hr]
              exact rcsr_pl n wr 1 1 0 ho hw m1 m2 hk hl (by simp) w
            · have hr : csrC S n wr = 0 := by unfold csrC; rw [hz, hl, hk, m1, m2]; rfl
              rw [hr]
              exact rcsr_pl n wr 2 1 0 ho hw m1 m2 hk hl (by simp) w
            · have hr : csrC S n wr = 2 := by unfold csrC; rw [hz, hl, hk, m1, m2]; rfl
              rw [hr]
              exact rcsr_nd n wr 3 1 2 false ho hw m1 m2 hk hl (by simp) w
          · rcases who_ways n with hk | hk | hk | hk
            · have hr : csrC S n wr = 0 := by unfold csrC; rw [hz, hl, hk, m1, m2]; rfl
              rw [hr]
              exact rcsr_pl n wr 0 3 0 ho hw m1 m2 hk hl (by simp) w
            · have hr : csrC S n wr = 0 := by unfold csrC; rw [hz, hl, hk, m1, m2]; rfl
              rw [hr]
              exact rcsr_pl n wr 1 3 0 ho hw m1 m2 hk hl (by simp) w
            · have hr : csrC S n wr = 0 := by unfold csrC; rw [hz, hl, hk, m1, m2]; rfl
              rw [hr]
              exact rcsr_pl n wr 2 3 0 ho hw m1 m2 hk hl (by simp) w
            · have hr : csrC S n wr = 0 := by unfold csrC; rw [hz, hl, hk, m1, m2]; rfl
              rw [hr]
              exact rcsr_nd n wr 3 3 0 true ho hw m1 m2 hk hl (by simp) w
          · rcases who_ways n with hk | hk | hk | hk
            · have hr : csrC S n wr = 22 := by unfold csrC; rw [hz, hl, hk, m1, m2]; rfl
              rw [hr]
              exact rcsr_pl n wr 0 4 22 ho hw m1 m2 hk hl (by simp) w
            · have hr : csrC S n wr = 22 := by unfold csrC; rw [hz, hl, hk, m1, m2]; rfl
              rw [hr]
              exact rcsr_pl n wr 1 4 22 ho hw m1 m2 hk hl (by simp) w
            · have hr : csrC S n wr = 22 := by unfold csrC; rw [hz, hl, hk, m1, m2]; rfl
              rw [hr]
              exact rcsr_pl n wr 2 4 22 ho hw m1 m2 hk hl (by simp) w
            · have hr : csrC S n wr = 2 := by unfold csrC; rw [hz, hl, hk, m1, m2]; rfl
              rw [hr]
              exact rcsr_pl n wr 3 4 2 ho hw m1 m2 hk hl (by simp) w
          · rcases who_ways n with hk | hk | hk | hk
            · have hr : csrC S n wr = 0 := by unfold csrC; rw [hz, hl, hk, m1, m2]; rfl
              rw [hr]
              exact rcsr_pl n wr 0 5 0 ho hw m1 m2 hk hl (by simp) w
            · have hr : csrC S n wr = 0 := by unfold csrC; rw [hz, hl, hk, m1, m2]; rfl
              rw [hr]
              exact rcsr_pl n wr 1 5 0 ho hw m1 m2 hk hl (by simp) w
            · have hr : csrC S n wr = 22 := by unfold csrC; rw [hz, hl, hk, m1, m2]; rfl
              rw [hr]
              exact rcsr_pl n wr 2 5 22 ho hw m1 m2 hk hl (by simp) w
            · have hr : csrC S n wr = 2 := by unfold csrC; rw [hz, hl, hk, m1, m2]; rfl
              rw [hr]
              exact rcsr_pl n wr 3 5 2 ho hw m1 m2 hk hl (by simp) w
end Go.Proofs.YthmanpfooegbcaaDoor
