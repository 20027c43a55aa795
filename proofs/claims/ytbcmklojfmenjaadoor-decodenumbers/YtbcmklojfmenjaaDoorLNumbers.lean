/-
  sallyportlaw3.DecodeNumbers, walked whole: true for every number and every two bytes.
-/
import Derived.Test.YtbcmklojfmenjaaDoorLMade
namespace Go.Proofs.YtbcmklojfmenjaaDoor
open Go.RowKit
theorem is_num {op rd rs1 rs2 imm : Int} (c : clsI op ≠ 0) (h1 : regB rd (hasRd op) = true) (h2 : regB rs1 (hasRs1 op) = true) (h3 : regB rs2 (hasRs2 op) = true) (h5 : numB op imm = true) (hn : hasNum op = true) : isB op rd rs1 rs2 imm 0 = true :=
  is_of c h1 h2 h3 (csr_zero _) (by rw [imm_num hn]; exact h5)
theorem reg_in {x : Int} (h : 0 ≤ x ∧ x < 32) {b : Bool} (hb : b = true) : regB x b = true := by rw [hb]; exact reg_ok h.1 h.2
theorem num_12 {op k : Int} (h0 : -2048 ≤ k) (h1 : k ≤ 2047) (h : ∀ k, numB op k = withinB k (-2048) 2047 1) : numB op k = true := by
  rw [h]
  simp only [withinB, Int.tmod_one, Bool.and_eq_true, decide_eq_true_eq, beq_self_eq_true, and_true]
  omega
theorem rd_addi {a b k u : Int} (ha : 0 ≤ a ∧ a < 32) (hb : 0 ≤ b ∧ b < 32) (k0 : -2048 ≤ k) (k1 : k ≤ 2047) (hu : k % 4294967296 % 4096 = u) : Made 22 a b 0 k 0 (u * 1048576 + b * 32768 + a * 128 + 19) := by
  refine made_any 22 a b 0 k 0 _ (is_num (by decide +kernel) (reg_in ha (by decide +kernel)) (reg_in hb (by decide +kernel)) (reg_zero _) (num_12 k0 k1 fun k => by rw [numB]; repeat rw [if_neg (by decide +kernel)]) (by decide +kernel)) ?_
  unfold encI
  repeat rw [if_neg (by decide +kernel)]
  rw [show opcI 22 = 19 by decide +kernel, show f3I 22 = 0 by decide +kernel, hu]
  omega
theorem rd_ld {a b k u : Int} (ha : 0 ≤ a ∧ a < 32) (hb : 0 ≤ b ∧ b < 32) (k0 : -2048 ≤ k) (k1 : k ≤ 2047) (hu : k % 4294967296 % 4096 = u) : Made 14 a b 0 k 0 (u * 1048576 + b * 32768 + 12288 + a * 128 + 3) := by
  refine made_any 14 a b 0 k 0 _ (is_num (by decide +kernel) (reg_in ha (by decide +kernel)) (reg_in hb (by decide +kernel)) (reg_zero _) (num_12 k0 k1 fun k => by rw [numB]; repeat rw [if_neg (by decide +kernel)]) (by decide +kernel)) ?_
  unfold encI
  repeat rw [if_neg (by decide +kernel)]
  rw [show opcI 14 = 3 by decide +kernel, show f3I 14 = 3 by decide +kernel, hu]
  omega
theorem rd_sd {a b k u : Int} (ha : 0 ≤ a ∧ a < 32) (hb : 0 ≤ b ∧ b < 32) (k0 : -2048 ≤ k) (k1 : k ≤ 2047) (hu : k % 4294967296 % 4096 = u) : Made 21 0 b a k 0 (u / 32 * 33554432 + a * 1048576 + b * 32768 + 12288 + u % 32 * 128 + 35) := by
  refine made_any 21 0 b a k 0 _ (is_num (by decide +kernel) (reg_zero _) (reg_in hb (by decide +kernel)) (reg_in ha (by decide +kernel)) (num_12 k0 k1 fun k => by rw [numB]; repeat rw [if_neg (by decide +kernel)]) (by decide +kernel)) ?_
  unfold encI
  repeat rw [if_neg (by decide +kernel)]
  rw [if_pos (by decide +kernel)]
  rw [show opcI 21 = 35 by decide +kernel, show f3I 21 = 3 by decide +kernel]
  have e1 : k % 4294967296 / 32 % 128 = u / 32 := by omega
  have e2 : k % 4294967296 % 32 = u % 32 := by omega
  rw [e1, e2]
  clear hu e1 e2
  omega
theorem rd_lui {a t j : Int} (ha : 0 ≤ a ∧ a < 32) (t0 : 0 ≤ t) (t1 : t < 4294967296) (t2 : t % 4096 = 0) (hj : j = if t < 2147483648 then t else t - 4294967296) : Made 1 a 0 0 j 0 (t + a * 128 + 55) := by
  have j0 : -2147483648 ≤ j ∧ j ≤ 2147479552 ∧ j % 4096 = 0 ∧ j % 4294967296 = t := by split at hj <;> omega
  refine made_any 1 a 0 0 j 0 _ (is_num (by decide +kernel) (reg_in ha (by decide +kernel)) (reg_zero _) (reg_zero _) ?_ (by decide +kernel)) ?_
  · rw [numB, if_pos (by decide +kernel)]
    simp only [withinB, tmod_zero j0.2.2.1, Bool.and_eq_true, decide_eq_true_eq, beq_self_eq_true, and_true]
    omega
  · unfold encI
    rw [if_pos (by decide +kernel), show opcI 1 = 55 by decide +kernel, j0.2.2.2]
    omega
theorem ext_12 (n : Int) : -2048 ≤ wrap64 (n * 4503599627370496) / 4503599627370496 ∧ wrap64 (n * 4503599627370496) / 4503599627370496 ≤ 2047 := by
  unfold wrap64
  omega
set_option maxHeartbeats 4000000 in
theorem numbers_law (n rd rs : Int) (n0 : -32768 ≤ n) (n1 : n ≤ 32767) (r0 : 0 ≤ rd) (r1 : rd < 256) (s0 : 0 ≤ rs) (s1 : rs < 256) (W : World) (hT : Tab W) :
    Calls Tryd.prog 7 #[.int .i16 n, .int .u8 rd, .int .u8 rs] W fun e w' => e = .returned (.bool true) ∧ Grown W w' := by
  have hq := eql_insn
  have hs := same_refl
  have hg := Grown.refl W
  obtain ⟨a, ha⟩ : ∃ a, rd % 32 = a := ⟨_, rfl⟩
  obtain ⟨b, hb⟩ : ∃ b, rs % 32 = b := ⟨_, rfl⟩
  have ba : 0 ≤ a ∧ a < 32 := by omega
  have bb : 0 ≤ b ∧ b < 32 := by omega
  obtain ⟨k0, k1⟩ := ext_12 n
  obtain ⟨k, hk⟩ : ∃ k, wrap64 (n * 4503599627370496) / 4503599627370496 = k := ⟨_, rfl⟩
  rw [hk] at k0 k1
  obtain ⟨u, hu⟩ : ∃ u, k % 4294967296 % 4096 = u := ⟨_, rfl⟩
  have bu : 0 ≤ u ∧ u < 4096 := by omega
  have hu' : bits .and .u32 (k % 4294967296) 4095 = u := by rw [and4095 (by omega) (by omega)]; exact hu
  obtain ⟨t, ht⟩ : ∃ t, n % 4294967296 * 4096 % 4294967296 = t := ⟨_, rfl⟩
  have bt : 0 ≤ t ∧ t < 4294967296 ∧ t % 4096 = 0 := by omega
  obtain ⟨j, hj⟩ : ∃ j, j = if t < 2147483648 then t else t - 4294967296 := ⟨_, rfl⟩
  have hw : IntKind.i32.wrap t = j := by rw [IntKind.wrap_i32, hj]; split <;> omega
  have hw2 : wrap64 j = j := by unfold wrap64; rw [hj]; split <;> omega
  have m0 : u * 1048576 % 4294967296 = u * 1048576 := by omega
  have m1 : u / 32 * 33554432 % 4294967296 = u / 32 * 33554432 := by omega
  have m2 : bits .and .u32 u 31 = u % 32 := and31 (by omega) (by omega)
  have o1 : bits .or .u32 (u * 1048576) (b * 32768) = u * 1048576 + b * 32768 := or32 20 (by omega) (by omega) (by omega) (by omega) (by omega) (by omega)
  have o2 : bits .or .u32 (u * 1048576 + b * 32768) (a * 128) = u * 1048576 + b * 32768 + a * 128 := or32 15 (by omega) (by omega) (by omega) (by omega) (by omega) (by omega)
  have o3 : bits .or .u32 (u * 1048576 + b * 32768 + a * 128) 19 = u * 1048576 + b * 32768 + a * 128 + 19 := or32 7 (by omega) (by omega) (by omega) (by omega) (by omega) (by omega)
  have o4 : bits .or .u32 (u * 1048576 + b * 32768) 12288 = u * 1048576 + b * 32768 + 12288 := or32 15 (by omega) (by omega) (by omega) (by omega) (by omega) (by omega)
  have o5 : bits .or .u32 (u * 1048576 + b * 32768 + 12288) (a * 128) = u * 1048576 + b * 32768 + 12288 + a * 128 := or32 12 (by omega) (by omega) (by omega) (by omega) (by omega) (by omega)
  have o6 : bits .or .u32 (u * 1048576 + b * 32768 + 12288 + a * 128) 3 = u * 1048576 + b * 32768 + 12288 + a * 128 + 3 := or32 7 (by omega) (by omega) (by omega) (by omega) (by omega) (by omega)
  have o7 : bits .or .u32 (u / 32 * 33554432) (a * 1048576) = u / 32 * 33554432 + a * 1048576 := or32 25 (by omega) (by omega) (by omega) (by omega) (by omega) (by omega)
  have o8 : bits .or .u32 (u / 32 * 33554432 + a * 1048576) (b * 32768) = u / 32 * 33554432 + a * 1048576 + b * 32768 := or32 20 (by omega) (by omega) (by omega) (by omega) (by omega) (by omega)
  have o9 : bits .or .u32 (u / 32 * 33554432 + a * 1048576 + b * 32768) 12288 = u / 32 * 33554432 + a * 1048576 + b * 32768 + 12288 := or32 15 (by omega) (by omega) (by omega) (by omega) (by omega) (by omega)
  have oa : bits .or .u32 (u / 32 * 33554432 + a * 1048576 + b * 32768 + 12288) (u % 32 * 128) = u / 32 * 33554432 + a * 1048576 + b * 32768 + 12288 + u % 32 * 128 := or32 12 (by omega) (by omega) (by omega) (by omega) (by omega) (by omega)
  have ob : bits .or .u32 (u / 32 * 33554432 + a * 1048576 + b * 32768 + 12288 + u % 32 * 128) 35 = u / 32 * 33554432 + a * 1048576 + b * 32768 + 12288 + u % 32 * 128 + 35 := or32 7 (by omega) (by omega) (by omega) (by omega) (by omega) (by omega)
  have oc : bits .or .u32 t (a * 128) = t + a * 128 := or32 12 (by omega) (by omega) (by omega) (by omega) (by omega) (by omega)
  have od : bits .or .u32 (t + a * 128) 55 = t + a * 128 + 55 := or32 7 (by omega) (by omega) (by omega) (by omega) (by omega) (by omega)
  have q1 := rd_addi ba bb k0 k1 hu
  have q2 := rd_ld ba bb k0 k1 hu
  have q3 := rd_sd ba bb k0 k1 hu
  have q4 := rd_lui ba bt.1 bt.2.1 bt.2.2 hj
  obtain ⟨a0, a1⟩ := ba
  obtain ⟨b0, b1⟩ := bb
  obtain ⟨u0, u1⟩ := bu
  obtain ⟨t0, t1, t2⟩ := bt
  clear hj hu t2
  go_enter Tryd.func7, Tryd.ntmps7
  go_wp2_with (go_at_call 8; refine (known_from hT hg).mono ?_; rintro e w' ⟨rfl, hg⟩)
  obtain ⟨x0, x1, x2, x3, x4, x5, x6⟩ := reads_made (by decide) (by decide) q1
  refine (decode_from hT hg _ q1.b0 q1.b1).mono ?_
  rw [x0, x1, x2, x3, x4, x5, x6]
  clear x0 x1 x2 x3 x4 x5 x6
  rintro e w1 ⟨rfl, hg⟩
  have hTw1 := (hT.grown hg).grown ((Grown.refl w1).alloc #[.int .i64 22, .int .i64 a, .int .i64 b, .int .i64 0, .int .i64 k, .int .i64 0] 25)
  have hgw1 := Grown.refl (w1.alloc (.cells #[.int .i64 22, .int .i64 a, .int .i64 b, .int .i64 0, .int .i64 k, .int .i64 0] 25))
  go_wp2_with fail
  obtain ⟨x0, x1, x2, x3, x4, x5, x6⟩ := reads_made (by decide) (by decide) q2
  refine (decode_from hTw1 hgw1 _ q2.b0 q2.b1).mono ?_
  rw [x0, x1, x2, x3, x4, x5, x6]
  clear x0 x1 x2 x3 x4 x5 x6
  rintro e w2 ⟨rfl, hgw1⟩
  have hTw2 := (hTw1.grown hgw1).grown ((Grown.refl w2).alloc #[.int .i64 14, .int .i64 a, .int .i64 b, .int .i64 0, .int .i64 k, .int .i64 0] 25)
  have hgw2 := Grown.refl (w2.alloc (.cells #[.int .i64 14, .int .i64 a, .int .i64 b, .int .i64 0, .int .i64 k, .int .i64 0] 25))
  go_wp2_with fail
  obtain ⟨x0, x1, x2, x3, x4, x5, x6⟩ := reads_made (by decide) (by decide) q3
  refine (decode_from hTw2 hgw2 _ q3.b0 q3.b1).mono ?_
  rw [x0, x1, x2, x3, x4, x5, x6]
  clear x0 x1 x2 x3 x4 x5 x6
  rintro e w3 ⟨rfl, hgw2⟩
  have hTw3 := (hTw2.grown hgw2).grown ((Grown.refl w3).alloc #[.int .i64 21, .int .i64 0, .int .i64 b, .int .i64 a, .int .i64 k, .int .i64 0] 25)
  have hgw3 := Grown.refl (w3.alloc (.cells #[.int .i64 21, .int .i64 0, .int .i64 b, .int .i64 a, .int .i64 k, .int .i64 0] 25))
  go_wp2_with fail
  obtain ⟨x0, x1, x2, x3, x4, x5, x6⟩ := reads_made (by decide) (by decide) q4
  refine (decode_from hTw3 hgw3 _ q4.b0 q4.b1).mono ?_
  rw [x0, x1, x2, x3, x4, x5, x6]
  clear x0 x1 x2 x3 x4 x5 x6
  rintro e w4 ⟨rfl, hgw3⟩
  have hTw4 := (hTw3.grown hgw3).grown ((Grown.refl w4).alloc #[.int .i64 1, .int .i64 a, .int .i64 0, .int .i64 0, .int .i64 j, .int .i64 0] 25)
  have hgw4 := Grown.refl (w4.alloc (.cells #[.int .i64 1, .int .i64 a, .int .i64 0, .int .i64 0, .int .i64 j, .int .i64 0] 25))
  obtain ⟨c0, c1, c2, c3, c4, c5⟩ := ((((((Six.new w1 25 22 a b 0 k 0).grown hgw1).grown ((Grown.refl w2).alloc #[.int .i64 14, .int .i64 a, .int .i64 b, .int .i64 0, .int .i64 k, .int .i64 0] 25)).grown hgw2).grown ((Grown.refl w3).alloc #[.int .i64 21, .int .i64 0, .int .i64 b, .int .i64 a, .int .i64 k, .int .i64 0] 25)).grown hgw3).grown ((Grown.refl w4).alloc #[.int .i64 1, .int .i64 a, .int .i64 0, .int .i64 0, .int .i64 j, .int .i64 0] 25)
  obtain ⟨d0, d1, d2, d3, d4, d5⟩ := ((((Six.new w2 25 14 a b 0 k 0).grown hgw2).grown ((Grown.refl w3).alloc #[.int .i64 21, .int .i64 0, .int .i64 b, .int .i64 a, .int .i64 k, .int .i64 0] 25)).grown hgw3).grown ((Grown.refl w4).alloc #[.int .i64 1, .int .i64 a, .int .i64 0, .int .i64 0, .int .i64 j, .int .i64 0] 25)
  obtain ⟨f0, f1, f2, f3, f4, f5⟩ := ((Six.new w3 25 21 0 b a k 0).grown hgw3).grown ((Grown.refl w4).alloc #[.int .i64 1, .int .i64 a, .int .i64 0, .int .i64 0, .int .i64 j, .int .i64 0] 25)
  clear q1 q2 q3 q4 hgw4 hTw4
  go_wp2_with fail
  go_ret
  exact ⟨rfl, Grown.trans' hg (Grown.trans' ((Grown.refl _).alloc _ _) (Grown.trans' hgw1 (Grown.trans' ((Grown.refl _).alloc _ _) (Grown.trans' hgw2 (Grown.trans' ((Grown.refl _).alloc _ _) (Grown.trans' hgw3 ((Grown.refl _).alloc _ _)))))))⟩
end Go.Proofs.YtbcmklojfmenjaaDoor
