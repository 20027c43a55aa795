/-
  What statement PteLess asks: walked for every argument.
-/
import Derived.Test.YtlgmnnfgekmibaaDoorPFace
import Derived.Test.YtlgmnnfgekmibaaDoorPMath
namespace Go.Proofs.YtlgmnnfgekmibaaDoor
open Go.RowKit
set_option maxHeartbeats 4000000 in
theorem pless_way (b off kd : Int) (user sum mxr m ml m3 m4 ks : Bool) (b0 : 0 ≤ b) (b1 : b ≤ 255) (o0 : 0 ≤ off) (o1 : off ≤ 255) (d0 : 0 ≤ kd) (d1 : kd ≤ 255)
    (e1 : mayE b (kd % 3) user sum mxr = m) (e2 : mayE (lessI b off) (kd % 3) user sum mxr = ml) (e3 : mayE b (kd % 3) user false false = m3) (e4 : mayE b (kd % 3) user true true = m4) (hk : (kd % 3 != 2) = ks)
    (h6 : m = true → (bits .and .i64 b 64 != 0) = true) (h4 : m = true → user = true → (bits .and .i64 b 16 != 0) = true) (h2 : m = true → ks = false → (bits .and .i64 b 4 != 0) = true ∧ (bits .and .i64 b 128 != 0) = true)
    (h : (m = false ∧ ml = false ∧ m3 = false) ∨ (m = false ∧ ml = false ∧ m3 = true ∧ m4 = true) ∨ (m = true ∧ ml = false ∧ user = false ∧ ks = true ∧ m3 = false) ∨ (m = true ∧ ml = false ∧ user = false ∧ ks = true ∧ m3 = true ∧ m4 = true) ∨ (m = true ∧ ml = true ∧ user = false ∧ ks = true ∧ m3 = false) ∨ (m = true ∧ ml = true ∧ user = false ∧ ks = true ∧ m3 = true ∧ m4 = true) ∨
      (m = true ∧ ml = false ∧ user = false ∧ ks = false ∧ m3 = false) ∨ (m = true ∧ ml = false ∧ user = false ∧ ks = false ∧ m3 = true ∧ m4 = true) ∨ (m = true ∧ ml = true ∧ user = false ∧ ks = false ∧ m3 = false) ∨ (m = true ∧ ml = true ∧ user = false ∧ ks = false ∧ m3 = true ∧ m4 = true) ∨
      (m = true ∧ ml = false ∧ user = true ∧ ks = true ∧ m3 = false) ∨ (m = true ∧ ml = false ∧ user = true ∧ ks = true ∧ m3 = true ∧ m4 = true) ∨ (m = true ∧ ml = true ∧ user = true ∧ ks = true ∧ m3 = false) ∨ (m = true ∧ ml = true ∧ user = true ∧ ks = true ∧ m3 = true ∧ m4 = true) ∨
      (m = true ∧ ml = false ∧ user = true ∧ ks = false ∧ m3 = false) ∨ (m = true ∧ ml = false ∧ user = true ∧ ks = false ∧ m3 = true ∧ m4 = true) ∨ (m = true ∧ ml = true ∧ user = true ∧ ks = false ∧ m3 = false) ∨ (m = true ∧ ml = true ∧ user = true ∧ ks = false ∧ m3 = true ∧ m4 = true)) {W : World} (hT : Tab10 W) :
    Calls Tryd.prog 4 #[.int .u8 b, .int .u8 off, .int .u8 kd, .bool user, .bool sum, .bool mxr] W fun e w' => e = .returned (.bool true) ∧ Kept W w' := by
  have hL : bits .andNot .i64 b (bits .andNot .i64 off 16) = lessI b off := rfl
  rcases h with ⟨rfl, rfl, rfl⟩ | ⟨rfl, rfl, rfl, rfl⟩ | ⟨rfl, rfl, rfl, rfl, rfl⟩ | ⟨rfl, rfl, rfl, rfl, rfl, rfl⟩ | ⟨rfl, rfl, rfl, rfl, rfl⟩ | ⟨rfl, rfl, rfl, rfl, rfl, rfl⟩ | ⟨rfl, rfl, rfl, rfl, rfl⟩ | ⟨rfl, rfl, rfl, rfl, rfl, rfl⟩ | ⟨rfl, rfl, rfl, rfl, rfl⟩ | ⟨rfl, rfl, rfl, rfl, rfl, rfl⟩ | ⟨rfl, rfl, rfl, rfl, rfl⟩ | ⟨rfl, rfl, rfl, rfl, rfl, rfl⟩ | ⟨rfl, rfl, rfl, rfl, rfl⟩ | ⟨rfl, rfl, rfl, rfl, rfl, rfl⟩ | ⟨rfl, rfl, rfl, rfl, rfl⟩ | ⟨rfl, rfl, rfl, rfl, rfl, rfl⟩ | ⟨rfl, rfl, rfl, rfl, rfl⟩ | ⟨rfl, rfl, rfl, rfl, rfl, rfl⟩
  all_goals
    try have f6 := h6 rfl
    try have f4 := h4 rfl rfl
    try obtain ⟨f2, f7⟩ := h2 rfl rfl
    clear h6 h4 h2
    go_enter Tryd.func4, Tryd.ntmps4
    go_wp2_with fail
    refine (known10_any hT (Only.refl _ W)).mono ?_
    rintro r w0 ⟨rfl, k0⟩
    go_wp2_with fail
    refine (pmay_from hT k0 _ _ _ _ _).mono ?_
    rintro r w1 ⟨rfl, k1⟩
    rw [e1]
    go_wp2_with fail
    refine (pmay_from hT k1 _ _ _ _ _).mono ?_
    rintro r w2 ⟨rfl, k2⟩
    rw [e2]
    go_wp2_with fail
    refine (pmay_from hT k2 _ _ _ _ _).mono ?_
    rintro r w3 ⟨rfl, k3⟩
    rw [e3]
    first
    | (go_wp2_with fail
       refine (pmay_from hT k3 _ _ _ _ _).mono ?_
       rintro r w4 ⟨rfl, k4⟩
       rw [e4]
       go_wp2
       go_ret
       exact ⟨rfl, k4⟩)
    | (go_wp2
       go_ret
       exact ⟨rfl, k3⟩)
theorem pless_any (b off kd : Int) (user sum mxr : Bool) (b0 : 0 ≤ b) (b1 : b ≤ 255) (o0 : 0 ≤ off) (o1 : off ≤ 255) (d0 : 0 ≤ kd) (d1 : kd ≤ 255) {W : World} (hT : Tab10 W) :
    Calls Tryd.prog 4 #[.int .u8 b, .int .u8 off, .int .u8 kd, .bool user, .bool sum, .bool mxr] W fun e w' => e = .returned (.bool true) ∧ Kept W w' := by
  have n1 := may_less b off (kd % 3) user sum mxr
  have n2 := may_more b (kd % 3) user
  refine pless_way b off kd user sum mxr _ _ _ _ _ b0 b1 o0 o1 d0 d1 rfl rfl rfl rfl rfl (fun h => ?_) (fun h hu => ?_) (fun h hk => ?_) ?_ hT
  · rw [i_is b 6 (by omega) 64 rfl]; exact (may_bits h).1
  · rw [i_is b 4 (by omega) 16 rfl]; exact (may_bits h).2.1 hu
  · rw [i_is b 2 (by omega) 4 rfl, i_is b 7 (by omega) 128 rfl]
    exact (may_bits h).2.2 (by simpa using hk)
  · generalize mayE b (kd % 3) user sum mxr = m at *
    generalize mayE (lessI b off) (kd % 3) user sum mxr = ml at *
    generalize mayE b (kd % 3) user false false = m3 at *
    generalize mayE b (kd % 3) user true true = m4 at *
    generalize (kd % 3 != 2) = ks
    clear b0 b1 o0 o1 d0 d1
    revert n1 n2
    cases m <;> cases ml <;> cases m3 <;> cases m4 <;> cases ks <;> cases user <;> simp
end Go.Proofs.YtlgmnnfgekmibaaDoor
