/-
  sallyportlaw4.EncodeJumps, walked whole: true for every number and every two registers.
-/
import Derived.Test.YtdogjmimjjmmaaaDoorEncFrom
import Derived.Test.YtdogjmimjjmmaaaDoorEncSum
import Derived.Test.YtdogjmimjjmmaaaDoorDecMask
namespace Go.Proofs.YtdogjmimjjmmaaaDoor
open Go.RowKit
theorem fit_or32 {x y : Int} {M N : Nat} (hx : Fit x M) (hy : Fit y N) (h : M &&& N = 0) (hM : M < 4294967296) (hN : N < 4294967296) : bits .or .u32 x y = x + y ∧ Fit (x + y) (M ||| N) := by
  have e := fit_or hx hy h (by omega) (by omega)
  have hx1 := hx.le
  have hy1 := hy.le
  refine ⟨?_, e.2⟩
  obtain ⟨a, rfl, ha⟩ := hx.n
  obtain ⟨b, rfl, hb⟩ := hy.n
  rw [(bits_nat .u64 64 (by decide) wraps_u64 a b (by omega) (by omega)).2] at e
  rw [(bits_nat .u32 32 (by decide) wraps_u32 a b (by omega) (by omega)).2]
  exact e.1
theorem andNot_one {K : Int} (h0 : -1048576 ≤ K) (h1 : K < 1048576) : bits .andNot .i64 K 1 = K / 2 * 2 := by
  show IntKind.i64.wrap (((BitVec.ofInt 64 K &&& ~~~ BitVec.ofInt 64 1).toNat : Nat) : Int) = K / 2 * 2
  rw [show ~~~ BitVec.ofInt 64 1 = BitVec.ofNat 64 ((2 ^ 63 - 1) * 2 ^ 1) by decide, BitVec.toNat_and, BitVec.toNat_ofInt, BitVec.toNat_ofNat, Nat.mod_eq_of_lt (by decide : (2 ^ 63 - 1) * 2 ^ 1 < 2 ^ 64), nat_range, IntKind.wrap_i64]
  obtain ⟨A, hA⟩ : ∃ A : Nat, (K % ((2 ^ 64 : Nat) : Int)).toNat = A := ⟨_, rfl⟩
  have hA' : (A : Int) = K % 18446744073709551616 := by omega
  rw [hA]
  have e : ((A / 2 ^ 1 % 2 ^ 63 * 2 ^ 1 : Nat) : Int) = (A : Int) / 2 * 2 := by omega
  rw [e, hA']
  omega
theorem or_one {j : Int} (h0 : -1048576 ≤ j) (h1 : j < 1048576) (h2 : j % 2 = 0) : bits .or .i64 j 1 = j + 1 := by
  show IntKind.i64.wrap (((BitVec.ofInt 64 j ||| BitVec.ofInt 64 1).toNat : Nat) : Int) = j + 1
  obtain ⟨A, hA⟩ : ∃ A : Nat, (BitVec.ofInt 64 j).toNat = A := ⟨_, rfl⟩
  have hA' : (A : Int) = j % 18446744073709551616 := by rw [← hA, BitVec.toNat_ofInt]; omega
  rw [BitVec.toNat_or, hA, show (BitVec.ofInt 64 1).toNat = 1 by decide, or_add A 1 (by rw [show (1 : Nat) = (2 ^ 1 - 1) * 2 ^ 0 by decide, nat_range]; omega), IntKind.wrap_i64]
  omega
theorem tmod_even {j : Int} (h : j % 2 = 0) : j.tmod 2 = 0 := by
  obtain ⟨k, rfl⟩ : ∃ k, j = 2 * k := ⟨j / 2, by omega⟩
  exact Int.mul_tmod_right 2 k
theorem is_jal {a j : Int} (a0 : 0 ≤ a) (a1 : a < 32) (j0 : -1048576 ≤ j) (j1 : j ≤ 1048574) (j2 : j % 2 = 0) : isB 3 a 0 0 j 0 = true := by
  have e := tmod_even j2
  have k1 : clsI 3 = 1 := by decide +kernel
  have k2 : hasRd 3 = true := by decide +kernel
  have k3 : hasNum 3 = true := by decide +kernel
  simp only [isB, regB, csrB, immB, numB, withinB, k1, k2, k3, e]
  simp
  omega
theorem is_jal_no {j : Int} (j2 : j % 2 = 1) : isB 3 0 0 0 j 0 = false := by
  have e : (j.tmod 2 == 0) = false := beq_eq_false_iff_ne.2 fun h => by
    have := Int.dvd_of_tmod_eq_zero h
    omega
  have k3 : hasNum 3 = true := by decide +kernel
  simp only [isB, immB, numB, withinB, k3, e]
  simp
theorem is_blt {a b k : Int} (a0 : 0 ≤ a) (a1 : a < 32) (b0 : 0 ≤ b) (b1 : b < 32) (j0 : -4096 ≤ k) (j1 : k ≤ 4094) (j2 : k % 2 = 0) : isB 7 0 a b k 0 = true := by
  have e := tmod_even j2
  have k1 : clsI 7 = 2 := by decide +kernel
  have k2 : hasRs1 7 = true := by decide +kernel
  have k3 : hasRs2 7 = true := by decide +kernel
  have k4 : hasNum 7 = true := by decide +kernel
  simp only [isB, regB, csrB, immB, numB, withinB, k1, k2, k3, k4, e]
  simp
  omega
theorem one_and {x : Int} (h0 : 0 ≤ x) (h1 : x < 4294967296) : bits .and .u32 x 1 = x % 2 := and1 h0 h1
set_option maxHeartbeats 1000000 in
theorem jal_word {a j : Int} (a0 : 0 ≤ a) (a1 : a < 32) (j0 : -1048576 ≤ j) (j1 : j ≤ 1048574) (j2 : j % 2 = 0) : (eW 3 a 0 0 j 0 == bits .or .u32 (bits .or .u32 (bits .or .u32 (bits .or .u32 (bits .or .u32 (bits .and .u32 (j % 4294967296 / 1048576) 1 * 2147483648 % 4294967296) (bits .and .u32 (j % 4294967296 / 2) 1023 * 2097152 % 4294967296)) (bits .and .u32 (j % 4294967296 / 2048) 1 * 1048576 % 4294967296)) (bits .and .u32 (j % 4294967296 / 4096) 255 * 4096 % 4294967296)) (a * 128)) (111)) = true := by
  have u0 : 0 ≤ j % 4294967296 := by omega
  have u1 : j % 4294967296 < 4294967296 := by omega
  rw [(e_yes (is_jal a0 a1 j0 j1 j2)).1]
  have he : encI 3 a 0 0 (j % 4294967296) 0 = opcI 3 + a * 128 + j % 4294967296 / 1048576 % 2 * 2147483648 + j % 4294967296 / 4096 % 256 * 4096 + j % 4294967296 / 2048 % 2 * 1048576 + j % 4294967296 / 2 % 1024 * 2097152 := by
    unfold encI
    repeat rw [if_neg (by decide +kernel)]
    rw [if_pos (by decide +kernel)]
  rw [he, show opcI 3 = 111 by decide +kernel]
  clear he
  obtain ⟨u, hu⟩ : ∃ u, j % 4294967296 = u := ⟨_, rfl⟩
  rw [hu] at u0 u1 ⊢
  clear hu
  rw [and1 (show 0 ≤ u / 1048576 by omega) (show u / 1048576 < 4294967296 by omega), show u / 1048576 % 2 * 2147483648 % 4294967296 = u / 1048576 % 2 * 2147483648 by omega]
  rw [and1023 (show 0 ≤ u / 2 by omega) (show u / 2 < 4294967296 by omega), show u / 2 % 1024 * 2097152 % 4294967296 = u / 2 % 1024 * 2097152 by omega]
  rw [and1 (show 0 ≤ u / 2048 by omega) (show u / 2048 < 4294967296 by omega), show u / 2048 % 2 * 1048576 % 4294967296 = u / 2048 % 2 * 1048576 by omega]
  rw [and255 (show 0 ≤ u / 4096 by omega) (show u / 4096 < 4294967296 by omega), show u / 4096 % 256 * 4096 % 4294967296 = u / 4096 % 256 * 4096 by omega]
  have f0 := fitm 31 1 2147483648 2147483648 rfl rfl (show 0 ≤ u / 1048576 % 2 by omega) (show u / 1048576 % 2 < 2 ^ 1 by omega)
  have f1 := fitm 21 10 2097152 2145386496 rfl rfl (show 0 ≤ u / 2 % 1024 by omega) (show u / 2 % 1024 < 2 ^ 10 by omega)
  have f2 := fitm 20 1 1048576 1048576 rfl rfl (show 0 ≤ u / 2048 % 2 by omega) (show u / 2048 % 2 < 2 ^ 1 by omega)
  have f3 := fitm 12 8 4096 1044480 rfl rfl (show 0 ≤ u / 4096 % 256 by omega) (show u / 4096 % 256 < 2 ^ 8 by omega)
  have f4 := fitm 7 5 128 3968 rfl rfl a0 (show a < 2 ^ 5 by omega)
  have f5 : Fit 111 111 := ⟨111, rfl, by decide⟩
  obtain ⟨g1, q1⟩ := fit_or32 f0 f1 (by decide) (by decide) (by decide)
  rw [g1]
  obtain ⟨g2, q2⟩ := fit_or32 q1 f2 (by decide) (by decide) (by decide)
  rw [g2]
  obtain ⟨g3, q3⟩ := fit_or32 q2 f3 (by decide) (by decide) (by decide)
  rw [g3]
  obtain ⟨g4, q4⟩ := fit_or32 q3 f4 (by decide) (by decide) (by decide)
  rw [g4]
  obtain ⟨g5, q5⟩ := fit_or32 q4 f5 (by decide) (by decide) (by decide)
  rw [g5]
  generalize u / 1048576 % 2 = y1048576 at *
  generalize u / 2 % 1024 = y2 at *
  generalize u / 2048 % 2 = y2048 at *
  generalize u / 4096 % 256 = y4096 at *
  exact beq_iff_eq.2 (by omega)
set_option maxHeartbeats 1000000 in
theorem blt_word {a b k : Int} (a0 : 0 ≤ a) (a1 : a < 32) (b0 : 0 ≤ b) (b1 : b < 32) (j0 : -4096 ≤ k) (j1 : k ≤ 4094) (j2 : k % 2 = 0) : (eW 7 0 a b k 0 == bits .or .u32 (bits .or .u32 (bits .or .u32 (bits .or .u32 (bits .or .u32 (bits .or .u32 (bits .or .u32 (bits .and .u32 (k % 4294967296 / 4096) 1 * 2147483648 % 4294967296) (bits .and .u32 (k % 4294967296 / 32) 63 * 33554432 % 4294967296)) (b * 1048576)) (a * 32768)) (16384)) (bits .and .u32 (k % 4294967296 / 2) 15 * 256 % 4294967296)) (bits .and .u32 (k % 4294967296 / 2048) 1 * 128 % 4294967296)) (99)) = true := by
  have u0 : 0 ≤ k % 4294967296 := by omega
  have u1 : k % 4294967296 < 4294967296 := by omega
  rw [(e_yes (is_blt a0 a1 b0 b1 j0 j1 j2)).1]
  have he : encI 7 0 a b (k % 4294967296) 0 = opcI 7 + f3I 7 * 4096 + a * 32768 + b * 1048576 + k % 4294967296 / 4096 % 2 * 2147483648 + k % 4294967296 / 2048 % 2 * 128 + k % 4294967296 / 32 % 64 * 33554432 + k % 4294967296 / 2 % 16 * 256 := by
    unfold encI
    repeat rw [if_neg (by decide +kernel)]
    rw [if_pos (by decide +kernel)]
  rw [he, show opcI 7 = 99 by decide +kernel, show f3I 7 = 4 by decide +kernel]
  clear he
  obtain ⟨u, hu⟩ : ∃ u, k % 4294967296 = u := ⟨_, rfl⟩
  rw [hu] at u0 u1 ⊢
  clear hu
  rw [and1 (show 0 ≤ u / 4096 by omega) (show u / 4096 < 4294967296 by omega), show u / 4096 % 2 * 2147483648 % 4294967296 = u / 4096 % 2 * 2147483648 by omega]
  rw [and63 (show 0 ≤ u / 32 by omega) (show u / 32 < 4294967296 by omega), show u / 32 % 64 * 33554432 % 4294967296 = u / 32 % 64 * 33554432 by omega]
  rw [and15 (show 0 ≤ u / 2 by omega) (show u / 2 < 4294967296 by omega), show u / 2 % 16 * 256 % 4294967296 = u / 2 % 16 * 256 by omega]
  rw [and1 (show 0 ≤ u / 2048 by omega) (show u / 2048 < 4294967296 by omega), show u / 2048 % 2 * 128 % 4294967296 = u / 2048 % 2 * 128 by omega]
  have f0 := fitm 31 1 2147483648 2147483648 rfl rfl (show 0 ≤ u / 4096 % 2 by omega) (show u / 4096 % 2 < 2 ^ 1 by omega)
  have f1 := fitm 25 6 33554432 2113929216 rfl rfl (show 0 ≤ u / 32 % 64 by omega) (show u / 32 % 64 < 2 ^ 6 by omega)
  have f2 := fitm 20 5 1048576 32505856 rfl rfl b0 (show b < 2 ^ 5 by omega)
  have f3 := fitm 15 5 32768 1015808 rfl rfl a0 (show a < 2 ^ 5 by omega)
  have f4 : Fit 16384 16384 := ⟨16384, rfl, by decide⟩
  have f5 := fitm 8 4 256 3840 rfl rfl (show 0 ≤ u / 2 % 16 by omega) (show u / 2 % 16 < 2 ^ 4 by omega)
  have f6 := fitm 7 1 128 128 rfl rfl (show 0 ≤ u / 2048 % 2 by omega) (show u / 2048 % 2 < 2 ^ 1 by omega)
  have f7 : Fit 99 99 := ⟨99, rfl, by decide⟩
  obtain ⟨g1, q1⟩ := fit_or32 f0 f1 (by decide) (by decide) (by decide)
  rw [g1]
  obtain ⟨g2, q2⟩ := fit_or32 q1 f2 (by decide) (by decide) (by decide)
  rw [g2]
  obtain ⟨g3, q3⟩ := fit_or32 q2 f3 (by decide) (by decide) (by decide)
  rw [g3]
  obtain ⟨g4, q4⟩ := fit_or32 q3 f4 (by decide) (by decide) (by decide)
  rw [g4]
  obtain ⟨g5, q5⟩ := fit_or32 q4 f5 (by decide) (by decide) (by decide)
  rw [g5]
  obtain ⟨g6, q6⟩ := fit_or32 q5 f6 (by decide) (by decide) (by decide)
  rw [g6]
  obtain ⟨g7, q7⟩ := fit_or32 q6 f7 (by decide) (by decide) (by decide)
  rw [g7]
  generalize u / 4096 % 2 = y4096 at *
  generalize u / 32 % 64 = y32 at *
  generalize u / 2 % 16 = y2 at *
  generalize u / 2048 % 2 = y2048 at *
  exact beq_iff_eq.2 (by omega)
theorem ext_21 (n : Int) : -1048576 ≤ wrap64 (n * 8796093022208) / 8796093022208 ∧ wrap64 (n * 8796093022208) / 8796093022208 < 1048576 := by
  unfold wrap64
  omega
theorem ext_13 (n : Int) : -4096 ≤ wrap64 (n * 2251799813685248) / 2251799813685248 ∧ wrap64 (n * 2251799813685248) / 2251799813685248 < 4096 := by
  unfold wrap64
  omega
set_option maxRecDepth 100000 in
set_option maxHeartbeats 4000000 in
theorem jumps_law (n p q : Int) (n0 : -2147483648 ≤ n) (n1 : n ≤ 2147483647) (p0 : 0 ≤ p) (p1 : p < 256) (q0 : 0 ≤ q) (q1 : q < 256) (W : World) (hT : Tab4 W) :
    Calls Tryd.prog 7 #[.int .i32 n, .int .u8 p, .int .u8 q] W fun e w' => e = .returned (.bool true) ∧ More W w' := by
  have hg := More.refl W
  obtain ⟨a, ha⟩ : ∃ a, p % 32 = a := ⟨_, rfl⟩
  obtain ⟨b, hb⟩ : ∃ b, q % 32 = b := ⟨_, rfl⟩
  have a0 : 0 ≤ a := by omega
  have a1 : a < 32 := by omega
  have b0 : 0 ≤ b := by omega
  have b1 : b < 32 := by omega
  obtain ⟨x0, x1⟩ := ext_21 n
  obtain ⟨y0, y1⟩ := ext_13 n
  obtain ⟨j, hj⟩ : ∃ j, wrap64 (n * 8796093022208) / 8796093022208 / 2 * 2 = j := ⟨_, rfl⟩
  obtain ⟨k, hk⟩ : ∃ k, wrap64 (n * 2251799813685248) / 2251799813685248 / 2 * 2 = k := ⟨_, rfl⟩
  have ej := andNot_one x0 x1
  have ek := andNot_one (show -1048576 ≤ _ by omega) (show _ < 1048576 by omega) (K := wrap64 (n * 2251799813685248) / 2251799813685248)
  rw [hj] at ej
  rw [hk] at ek
  have bj : -1048576 ≤ j ∧ j ≤ 1048574 ∧ j % 2 = 0 := by omega
  have bk : -4096 ≤ k ∧ k ≤ 4094 ∧ k % 2 = 0 := by omega
  clear x0 x1 y0 y1 hj hk
  obtain ⟨j0, j1, j2⟩ := bj
  obtain ⟨k0, k1, k2⟩ := bk
  have eo := or_one j0 (by omega) j2
  obtain ⟨m, hm⟩ : ∃ m, j + 1 = m := ⟨_, rfl⟩
  rw [hm] at eo
  have c1 := jal_word a0 a1 j0 j1 j2
  have c2 := blt_word a0 a1 b0 b1 k0 k1 k2
  have c3 := (e_yes (is_jal a0 a1 j0 j1 j2)).2.1
  have c4 := (e_yes (is_blt a0 a1 b0 b1 k0 k1 k2)).2.1
  have c5 := (e_no (is_jal_no (show m % 2 = 1 by omega))).2.1
  clear hm j0 j1 j2 k0 k1 k2
  go_enter Tryd.func7, Tryd.ntmps7
  go_wp2_with (first | (go_at_call 9; refine (known4_from hT hg).mono ?_; rintro e w' ⟨rfl, hg⟩) | (go_at_call 10; refine (enc4_from hT hg _ _ _ _ _ _).mono ?_; rintro e w' ⟨rfl, hg⟩))
  go_ret
  exact ⟨rfl, hg⟩
end Go.Proofs.YtdogjmimjjmmaaaDoor
