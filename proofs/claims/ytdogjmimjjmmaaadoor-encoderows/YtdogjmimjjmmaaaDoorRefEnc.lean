/-
  What the document's guess and Encode answer (the reference of layers 3 and 4), for every operation.
-/
import Derived.Test.YtdogjmimjjmmaaaDoorRefEncA
import Derived.Test.YtdogjmimjjmmaaaDoorRefEncB
import Derived.Test.YtdogjmimjjmmaaaDoorRefGuess
namespace Go.Proofs.YtdogjmimjjmmaaaDoor
open Go.RowKit
/-- The word of an instruction (n: its number, below 2^32), as P4.1 tells it. -/
def encI (op rd rs1 rs2 n csr : Int) : Int :=
  if op ≤ 2 then opcI op + rd * 128 + n / 4096 * 4096 else if op = 3 then opcI op + rd * 128 + n / 1048576 % 2 * 2147483648 + n / 4096 % 256 * 4096 + n / 2048 % 2 * 1048576 + n / 2 % 1024 * 2097152
  else if clsI op = 2 then opcI op + f3I op * 4096 + rs1 * 32768 + rs2 * 1048576 + n / 4096 % 2 * 2147483648 + n / 2048 % 2 * 128 + n / 32 % 64 * 33554432 + n / 2 % 16 * 256
  else if clsI op = 4 then opcI op + f3I op * 4096 + rs1 * 32768 + rs2 * 1048576 + n / 32 % 128 * 33554432 + n % 32 * 128
  else if clsI op = 6 ∨ clsI op = 11 ∨ op = 69 then opcI op + f3I op * 4096 + rs1 * 32768 + rd * 128 + rs2 * 1048576 + f7I op * 33554432
  else if 57 ≤ op ∧ op ≤ 59 then opcI op + f3I op * 4096 + rd * 128 + n * 32768 + csr * 1048576 else if clsI op = 9 then opcI op + f3I op * 4096 + rs1 * 32768 + rd * 128 + csr * 1048576
  else if op = 68 then opcI op + f3I op * 4096 + rs1 * 32768 + rd * 128 + 3145728 + f7I op * 33554432 else if clsI op = 12 then opcI op + f3I op * 4096 + rs1 * 32768 + rd * 128 + f7I op * 33554432
  else if 28 ≤ op ∧ op ≤ 30 ∨ 32 ≤ op ∧ op ≤ 34 then opcI op + f3I op * 4096 + rs1 * 32768 + rd * 128 + n % 64 * 1048576 + f7I op * 33554432
  else if clsI op = 7 ∨ clsI op = 8 ∨ clsI op = 10 then fixI op else opcI op + f3I op * 4096 + rs1 * 32768 + rd * 128 + n % 4096 * 1048576
set_option maxRecDepth 100000 in
set_option maxHeartbeats 1000000 in
theorem encode_none (op rd rs1 rs2 imm csr : Int) (h : isB op rd rs1 rs2 imm csr = false) (w : World) :
    Calls Tryd.prog 11 #[.agg #[.int .i64 op, .int .i64 rd, .int .i64 rs1, .int .i64 rs2, .int .i64 imm, .int .i64 csr]] w
      fun e w' => e = .returned (.tuple #[.int .u32 0, .bool false]) ∧ Grown w w' := by
  go_enter Tryd.func11, Tryd.ntmps11
  go_wp2_with (go_at_call 21; refine (ris_any _ _ _ _ _ _ _).mono ?_; rintro e w' ⟨rfl, hg⟩)
  go_ret2
  exact ⟨rfl, Grown.trans' ((Grown.refl _).alloc _ _) hg⟩
set_option maxRecDepth 100000 in
set_option maxHeartbeats 1000000 in
theorem encode_fix (op rd rs1 rs2 imm csr : Int) (h : isB op rd rs1 rs2 imm csr = true) (hf : (fixI op == 0) = false) (w : World) :
    Calls Tryd.prog 11 #[.agg #[.int .i64 op, .int .i64 rd, .int .i64 rs1, .int .i64 rs2, .int .i64 imm, .int .i64 csr]] w
      fun e w' => e = .returned (.tuple #[.int .u32 (fixI op), .bool true]) ∧ Grown w w' := by
  go_enter Tryd.func11, Tryd.ntmps11
  go_wp2_with (first | (go_at_call 21; refine (ris_any _ _ _ _ _ _ _).mono ?_; rintro e w' ⟨rfl, hg⟩; obtain ⟨c0, c1, c2, c3, c4, c5⟩ := (Six.new _ _ _ _ _ _ _ _).grown hg) | (go_at_call 22; refine (fixed_any _ _).mono ?_; rintro e w' ⟨rfl, rfl⟩))
  go_ret2
  exact ⟨rfl, Grown.trans' ((Grown.refl _).alloc _ _) hg⟩
theorem cls_of_is {op rd rs1 rs2 imm csr : Int} (h : isB op rd rs1 rs2 imm csr = true) : 1 ≤ op ∧ op ≤ 69 := by
  apply Classical.byContradiction
  intro hn
  have : clsI op = 0 := (cls_0 (by omega)).symm
  simp [isB, this] at h
theorem small_imm {op rd rs1 rs2 imm csr : Int} (h : isB op rd rs1 rs2 imm csr = true) (h0 : 57 ≤ op) (h1 : op ≤ 59) : 0 ≤ imm ∧ imm < 32 := by
  simp only [isB, Bool.and_eq_true, bne_iff_ne, ne_eq] at h
  obtain ⟨g0, g1, g2, g3, g4, g5⟩ := h
  have hc : clsI op = 9 := (cls_9 (by omega) (by omega)).symm
  have hn : hasNum op = true := decide_eq_true (by omega)
  rw [immB, hn, if_pos rfl, numB, if_neg (by omega), if_neg (by omega), hc, if_neg (by decide), if_neg (by omega), if_pos (.inr rfl)] at g5
  simp [withinB] at g5
  omega
set_option maxHeartbeats 1000000 in
theorem encode_any (op rd rs1 rs2 imm csr : Int) (h : isB op rd rs1 rs2 imm csr = true) (w : World) :
    Calls Tryd.prog 11 #[.agg #[.int .i64 op, .int .i64 rd, .int .i64 rs1, .int .i64 rs2, .int .i64 imm, .int .i64 csr]] w
      fun e w' => e = .returned (.tuple #[.int .u32 (encI op rd rs1 rs2 (imm % 4294967296) csr), .bool true]) ∧ Grown w w' := by
  obtain ⟨h0, h1⟩ := cls_of_is h
  have hn : IntKind.u32.wrap imm = imm % 4294967296 := IntKind.wrap_u32 imm
  have hn0 : 0 ≤ imm % 4294967296 := by omega
  have hn1 : imm % 4294967296 < 4294967296 := by omega
  rcases op_ranges h0 h1 with ⟨l, u⟩ | ⟨l, u⟩ | ⟨l, u⟩ | ⟨l, u⟩ | ⟨l, u⟩ | ⟨l, u⟩ | ⟨l, u⟩ | ⟨l, u⟩ | ⟨l, u⟩ | ⟨l, u⟩ | ⟨l, u⟩ | ⟨l, u⟩ | ⟨l, u⟩ | ⟨l, u⟩ | ⟨l, u⟩ | ⟨l, u⟩ | ⟨l, u⟩ | ⟨l, u⟩ | ⟨l, u⟩
  · have hc : clsI op = 1 := (cls_1 (by omega) (by omega)).symm
    have e : encI op rd rs1 rs2 (imm % 4294967296) csr = opcI op + rd * 128 + (imm % 4294967296) / 4096 * 4096 := by
      unfold encI
      rw [hc]
      repeat rw [if_neg (by omega)]
      rw [if_pos (by omega)]
    rw [e]
    exact encode_U op rd rs1 rs2 imm csr _ l u h hn hn0 hn1 w
  · have hc : clsI op = 1 := (cls_1 (by omega) (by omega)).symm
    have e : encI op rd rs1 rs2 (imm % 4294967296) csr = opcI op + rd * 128 + (imm % 4294967296) / 1048576 % 2 * 2147483648 + (imm % 4294967296) / 4096 % 256 * 4096 + (imm % 4294967296) / 2048 % 2 * 1048576 + (imm % 4294967296) / 2 % 1024 * 2097152 := by
      unfold encI
      rw [hc]
      repeat rw [if_neg (by omega)]
      rw [if_pos (by omega)]
    rw [e]
    exact encode_J op rd rs1 rs2 imm csr _ l u h hn hn0 hn1 w
  · have hc : clsI op = 1 := (cls_1 (by omega) (by omega)).symm
    have e : encI op rd rs1 rs2 (imm % 4294967296) csr = opcI op + f3I op * 4096 + rs1 * 32768 + rd * 128 + (imm % 4294967296) % 4096 * 1048576 := by
      unfold encI
      rw [hc]
      repeat rw [if_neg (by omega)]
    rw [e]
    exact encode_Jr op rd rs1 rs2 imm csr _ l u h hn hn0 hn1 w
  · have hc : clsI op = 2 := (cls_2 (by omega) (by omega)).symm
    have e : encI op rd rs1 rs2 (imm % 4294967296) csr = opcI op + f3I op * 4096 + rs1 * 32768 + rs2 * 1048576 + (imm % 4294967296) / 4096 % 2 * 2147483648 + (imm % 4294967296) / 2048 % 2 * 128 + (imm % 4294967296) / 32 % 64 * 33554432 + (imm % 4294967296) / 2 % 16 * 256 := by
      unfold encI
      rw [hc]
      repeat rw [if_neg (by omega)]
      rw [if_pos (by omega)]
    rw [e]
    exact encode_B op rd rs1 rs2 imm csr _ l u h hn hn0 hn1 w
  · have hc : clsI op = 3 := (cls_3 (by omega) (by omega)).symm
    have e : encI op rd rs1 rs2 (imm % 4294967296) csr = opcI op + f3I op * 4096 + rs1 * 32768 + rd * 128 + (imm % 4294967296) % 4096 * 1048576 := by
      unfold encI
      rw [hc]
      repeat rw [if_neg (by omega)]
    rw [e]
    exact encode_L op rd rs1 rs2 imm csr _ l u h hn hn0 hn1 w
  · have hc : clsI op = 4 := (cls_4 (by omega) (by omega)).symm
    have e : encI op rd rs1 rs2 (imm % 4294967296) csr = opcI op + f3I op * 4096 + rs1 * 32768 + rs2 * 1048576 + (imm % 4294967296) / 32 % 128 * 33554432 + (imm % 4294967296) % 32 * 128 := by
      unfold encI
      rw [hc]
      repeat rw [if_neg (by omega)]
      rw [if_pos (by omega)]
    rw [e]
    exact encode_S op rd rs1 rs2 imm csr _ l u h hn hn0 hn1 w
  · have hc : clsI op = 5 := (cls_5 (by omega) (by omega)).symm
    have e : encI op rd rs1 rs2 (imm % 4294967296) csr = opcI op + f3I op * 4096 + rs1 * 32768 + rd * 128 + (imm % 4294967296) % 4096 * 1048576 := by
      unfold encI
      rw [hc]
      repeat rw [if_neg (by omega)]
    rw [e]
    exact encode_I op rd rs1 rs2 imm csr _ l u h hn hn0 hn1 w
  · have hc : clsI op = 5 := (cls_5 (by omega) (by omega)).symm
    have e : encI op rd rs1 rs2 (imm % 4294967296) csr = opcI op + f3I op * 4096 + rs1 * 32768 + rd * 128 + (imm % 4294967296) % 64 * 1048576 + f7I op * 33554432 := by
      unfold encI
      rw [hc]
      repeat rw [if_neg (by omega)]
      rw [if_pos (by omega)]
    rw [e]
    exact encode_H op rd rs1 rs2 imm csr _ l u h hn hn0 hn1 w
  · have hc : clsI op = 5 := (cls_5 (by omega) (by omega)).symm
    have e : encI op rd rs1 rs2 (imm % 4294967296) csr = opcI op + f3I op * 4096 + rs1 * 32768 + rd * 128 + (imm % 4294967296) % 4096 * 1048576 := by
      unfold encI
      rw [hc]
      repeat rw [if_neg (by omega)]
    rw [e]
    exact encode_Iw op rd rs1 rs2 imm csr _ l u h hn hn0 hn1 w
  · have hc : clsI op = 5 := (cls_5 (by omega) (by omega)).symm
    have e : encI op rd rs1 rs2 (imm % 4294967296) csr = opcI op + f3I op * 4096 + rs1 * 32768 + rd * 128 + (imm % 4294967296) % 64 * 1048576 + f7I op * 33554432 := by
      unfold encI
      rw [hc]
      repeat rw [if_neg (by omega)]
      rw [if_pos (by omega)]
    rw [e]
    exact encode_Hw op rd rs1 rs2 imm csr _ l u h hn hn0 hn1 w
  · have hc : clsI op = 6 := (cls_6 (by omega) (by omega)).symm
    have e : encI op rd rs1 rs2 (imm % 4294967296) csr = opcI op + f3I op * 4096 + rs1 * 32768 + rd * 128 + rs2 * 1048576 + f7I op * 33554432 := by
      unfold encI
      rw [hc]
      repeat rw [if_neg (by omega)]
      rw [if_pos (by omega)]
    rw [e]
    exact encode_R op rd rs1 rs2 imm csr _ l u h hn hn0 hn1 w
  · have hc : clsI op = 7 := (cls_7 (by omega) (by omega)).symm
    have e : encI op rd rs1 rs2 (imm % 4294967296) csr = fixI op := by
      unfold encI
      rw [hc]
      repeat rw [if_neg (by omega)]
      rw [if_pos (by omega)]
    rw [e]
    refine encode_fix op rd rs1 rs2 imm csr h ?_ w
    have : ∀ k : Fin 70, 50 ≤ k.val → k.val ≤ 51 → (fixI k.val == 0) = false := by decide +kernel
    have := this ⟨op.toNat, by omega⟩ (by show 50 ≤ op.toNat; omega) (by show op.toNat ≤ 51; omega)
    rwa [show ((op.toNat : Nat) : Int) = op by omega] at this
  · have hc : clsI op = 8 := (cls_8 (by omega) (by omega)).symm
    have e : encI op rd rs1 rs2 (imm % 4294967296) csr = fixI op := by
      unfold encI
      rw [hc]
      repeat rw [if_neg (by omega)]
      rw [if_pos (by omega)]
    rw [e]
    refine encode_fix op rd rs1 rs2 imm csr h ?_ w
    have : ∀ k : Fin 70, 52 ≤ k.val → k.val ≤ 53 → (fixI k.val == 0) = false := by decide +kernel
    have := this ⟨op.toNat, by omega⟩ (by show 52 ≤ op.toNat; omega) (by show op.toNat ≤ 53; omega)
    rwa [show ((op.toNat : Nat) : Int) = op by omega] at this
  · have hc : clsI op = 9 := (cls_9 (by omega) (by omega)).symm
    have e : encI op rd rs1 rs2 (imm % 4294967296) csr = opcI op + f3I op * 4096 + rs1 * 32768 + rd * 128 + csr * 1048576 := by
      unfold encI
      rw [hc]
      repeat rw [if_neg (by omega)]
      rw [if_pos (by omega)]
    rw [e]
    exact encode_C op rd rs1 rs2 imm csr _ l u h hn hn0 hn1 w
  · have hc : clsI op = 9 := (cls_9 (by omega) (by omega)).symm
    have e : encI op rd rs1 rs2 (imm % 4294967296) csr = opcI op + f3I op * 4096 + rd * 128 + (imm % 4294967296) * 32768 + csr * 1048576 := by
      unfold encI
      rw [hc]
      repeat rw [if_neg (by omega)]
      rw [if_pos (by omega)]
    rw [e]
    exact encode_Ci op rd rs1 rs2 imm csr _ l u h hn hn0 hn1 (by have := small_imm h (by omega) (by omega); omega) w
  · have hc : clsI op = 10 := (cls_10 (by omega) (by omega)).symm
    have e : encI op rd rs1 rs2 (imm % 4294967296) csr = fixI op := by
      unfold encI
      rw [hc]
      repeat rw [if_neg (by omega)]
      rw [if_pos (by omega)]
    rw [e]
    refine encode_fix op rd rs1 rs2 imm csr h ?_ w
    have : ∀ k : Fin 70, 60 ≤ k.val → k.val ≤ 62 → (fixI k.val == 0) = false := by decide +kernel
    have := this ⟨op.toNat, by omega⟩ (by show 60 ≤ op.toNat; omega) (by show op.toNat ≤ 62; omega)
    rwa [show ((op.toNat : Nat) : Int) = op by omega] at this
  · have hc : clsI op = 11 := (cls_11 (by omega) (by omega)).symm
    have e : encI op rd rs1 rs2 (imm % 4294967296) csr = opcI op + f3I op * 4096 + rs1 * 32768 + rd * 128 + rs2 * 1048576 + f7I op * 33554432 := by
      unfold encI
      rw [hc]
      repeat rw [if_neg (by omega)]
      rw [if_pos (by omega)]
    rw [e]
    exact encode_V op rd rs1 rs2 imm csr _ l u h hn hn0 hn1 w
  · have hc : clsI op = 12 := (cls_12 (by omega) (by omega)).symm
    by_cases hx : op = 68
    · have e : encI op rd rs1 rs2 (imm % 4294967296) csr = opcI op + f3I op * 4096 + rs1 * 32768 + rd * 128 + 3145728 + f7I op * 33554432 := by
        unfold encI
        rw [hc]
        repeat rw [if_neg (by omega)]
        rw [if_pos (by omega)]
      rw [e]
      exact encode_X op rd rs1 rs2 imm csr _ (by omega) (by omega) h hn hn0 hn1 w
    · have e : encI op rd rs1 rs2 (imm % 4294967296) csr = opcI op + f3I op * 4096 + rs1 * 32768 + rd * 128 + f7I op * 33554432 := by
        unfold encI
        rw [hc]
        repeat rw [if_neg (by omega)]
        rw [if_pos (by omega)]
      rw [e]
      exact encode_G op rd rs1 rs2 imm csr _ (by omega) (by omega) h hn hn0 hn1 w
  · have hc : clsI op = 12 := (cls_12 (by omega) (by omega)).symm
    have e : encI op rd rs1 rs2 (imm % 4294967296) csr = opcI op + f3I op * 4096 + rs1 * 32768 + rd * 128 + rs2 * 1048576 + f7I op * 33554432 := by
      unfold encI
      rw [hc]
      repeat rw [if_neg (by omega)]
      rw [if_pos (by omega)]
    rw [e]
    exact encode_Gs op rd rs1 rs2 imm csr _ l u h hn hn0 hn1 w
end Go.Proofs.YtdogjmimjjmmaaaDoor
