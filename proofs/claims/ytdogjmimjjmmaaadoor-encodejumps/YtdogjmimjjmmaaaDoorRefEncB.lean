/-
  What the document's Encode answers (the reference of layers 3 and 4): walked, kind of operation by kind.
-/
import Derived.Test.YtdogjmimjjmmaaaDoorRefEncBase
namespace Go.Proofs.YtdogjmimjjmmaaaDoor
open Go.RowKit
set_option linter.unusedVariables false in
set_option maxRecDepth 100000 in
set_option maxHeartbeats 2000000 in
theorem encode_Ci (op rd rs1 rs2 imm csr n : Int) (h0 : 57 ≤ op) (h1 : op ≤ 59) (h : isB op rd rs1 rs2 imm csr = true) (hn : IntKind.u32.wrap imm = n) (hn0 : 0 ≤ n) (hn1 : n < 4294967296) (hn2 : n < 32) (w : World) :
    Calls Tryd.prog 11 #[.agg #[.int .i64 op, .int .i64 rd, .int .i64 rs1, .int .i64 rs2, .int .i64 imm, .int .i64 csr]] w
      fun e w' => e = .returned (.tuple #[.int .u32 (opcI op + f3I op * 4096 + rd * 128 + n * 32768 + csr * 1048576), .bool true]) ∧ Grown w w' := by
  obtain ⟨b0, b1, b2, b3, b4, b5, b6, b7⟩ := is_bounds h
  obtain ⟨k0, k1, k2, k3, k4, k5⟩ := codes_bd op
  have o0 : bits .or .u32 (opcI op) (f3I op * 4096) = opcI op + f3I op * 4096 := or_mid 12 15 (by decide) (by omega) (by omega) (low_of (opcI op) (0) (by omega) (by omega) (by omega) (by omega)) (by omega) (by omega) (by omega) (by omega)
  have o1 : bits .or .u32 (opcI op + f3I op * 4096) (rd * 128) = opcI op + f3I op * 4096 + rd * 128 := or_mid 7 12 (by decide) (by omega) (by omega) (low_of (opcI op) (f3I op * 1) (by omega) (by omega) (by omega) (by omega)) (by omega) (by omega) (by omega) (by omega)
  have o2 : bits .or .u32 (opcI op + f3I op * 4096 + rd * 128) (n * 32768) = opcI op + f3I op * 4096 + rd * 128 + n * 32768 := or_mid 15 20 (by decide) (by omega) (by omega) (low_of (opcI op + f3I op * 4096 + rd * 128) (0) (by omega) (by omega) (by omega) (by omega)) (by omega) (by omega) (by omega) (by omega)
  have o3 : bits .or .u32 (opcI op + f3I op * 4096 + rd * 128 + n * 32768) (csr * 1048576) = opcI op + f3I op * 4096 + rd * 128 + n * 32768 + csr * 1048576 := or_mid 20 32 (by decide) (by omega) (by omega) (low_of (opcI op + f3I op * 4096 + rd * 128 + n * 32768) (0) (by omega) (by omega) (by omega) (by omega)) (by omega) (by omega) (by omega) (by omega)
  have hc : clsI op = 9 := (cls_9 (by omega) (by omega)).symm
  have hfx : fixI op = 0 := fix_none (by omega)
  go_enter Tryd.func11, Tryd.ntmps11
  go_wp2_with (first | (go_at_call 21; refine (ris_any _ _ _ _ _ _ _).mono ?_; rintro e w' ⟨rfl, hg⟩; obtain ⟨c0, c1, c2, c3, c4, c5⟩ := (Six.new _ _ _ _ _ _ _ _).grown hg) | (go_at_call 22; refine (fixed_any _ _).mono ?_; rintro e w' ⟨rfl, rfl⟩) | (go_at_call 24; refine (rclass_any _ _).mono ?_; rintro e w' ⟨rfl, rfl⟩) | (go_at_call 23; refine (code_from hg _ (by omega) (by omega)).mono ?_; rintro e w' ⟨rfl, hg⟩; obtain ⟨c0, c1, c2, c3, c4, c5⟩ := (Six.new _ _ _ _ _ _ _ _).grown hg))
  all_goals
    go_ret2
    exact ⟨rfl, Grown.trans' ((Grown.refl _).alloc _ _) hg⟩
set_option linter.unusedVariables false in
set_option maxRecDepth 100000 in
set_option maxHeartbeats 2000000 in
theorem encode_C (op rd rs1 rs2 imm csr n : Int) (h0 : 54 ≤ op) (h1 : op ≤ 56) (h : isB op rd rs1 rs2 imm csr = true) (hn : IntKind.u32.wrap imm = n) (hn0 : 0 ≤ n) (hn1 : n < 4294967296) (w : World) :
    Calls Tryd.prog 11 #[.agg #[.int .i64 op, .int .i64 rd, .int .i64 rs1, .int .i64 rs2, .int .i64 imm, .int .i64 csr]] w
      fun e w' => e = .returned (.tuple #[.int .u32 (opcI op + f3I op * 4096 + rs1 * 32768 + rd * 128 + csr * 1048576), .bool true]) ∧ Grown w w' := by
  obtain ⟨b0, b1, b2, b3, b4, b5, b6, b7⟩ := is_bounds h
  obtain ⟨k0, k1, k2, k3, k4, k5⟩ := codes_bd op
  have o0 : bits .or .u32 (opcI op) (f3I op * 4096) = opcI op + f3I op * 4096 := or_mid 12 15 (by decide) (by omega) (by omega) (low_of (opcI op) (0) (by omega) (by omega) (by omega) (by omega)) (by omega) (by omega) (by omega) (by omega)
  have o1 : bits .or .u32 (opcI op + f3I op * 4096) (rs1 * 32768) = opcI op + f3I op * 4096 + rs1 * 32768 := or_mid 15 20 (by decide) (by omega) (by omega) (low_of (opcI op + f3I op * 4096) (0) (by omega) (by omega) (by omega) (by omega)) (by omega) (by omega) (by omega) (by omega)
  have o2 : bits .or .u32 (opcI op + f3I op * 4096 + rs1 * 32768) (rd * 128) = opcI op + f3I op * 4096 + rs1 * 32768 + rd * 128 := or_mid 7 12 (by decide) (by omega) (by omega) (low_of (opcI op) (f3I op * 1 + rs1 * 8) (by omega) (by omega) (by omega) (by omega)) (by omega) (by omega) (by omega) (by omega)
  have o3 : bits .or .u32 (opcI op + f3I op * 4096 + rs1 * 32768 + rd * 128) (csr * 1048576) = opcI op + f3I op * 4096 + rs1 * 32768 + rd * 128 + csr * 1048576 := or_mid 20 32 (by decide) (by omega) (by omega) (low_of (opcI op + f3I op * 4096 + rs1 * 32768 + rd * 128) (0) (by omega) (by omega) (by omega) (by omega)) (by omega) (by omega) (by omega) (by omega)
  have hc : clsI op = 9 := (cls_9 (by omega) (by omega)).symm
  have hfx : fixI op = 0 := fix_none (by omega)
  go_enter Tryd.func11, Tryd.ntmps11
  go_wp2_with (first | (go_at_call 21; refine (ris_any _ _ _ _ _ _ _).mono ?_; rintro e w' ⟨rfl, hg⟩; obtain ⟨c0, c1, c2, c3, c4, c5⟩ := (Six.new _ _ _ _ _ _ _ _).grown hg) | (go_at_call 22; refine (fixed_any _ _).mono ?_; rintro e w' ⟨rfl, rfl⟩) | (go_at_call 24; refine (rclass_any _ _).mono ?_; rintro e w' ⟨rfl, rfl⟩) | (go_at_call 23; refine (code_from hg _ (by omega) (by omega)).mono ?_; rintro e w' ⟨rfl, hg⟩; obtain ⟨c0, c1, c2, c3, c4, c5⟩ := (Six.new _ _ _ _ _ _ _ _).grown hg))
  all_goals
    go_ret2
    exact ⟨rfl, Grown.trans' ((Grown.refl _).alloc _ _) hg⟩
set_option linter.unusedVariables false in
set_option maxRecDepth 100000 in
set_option maxHeartbeats 2000000 in
theorem encode_X (op rd rs1 rs2 imm csr n : Int) (h0 : 68 ≤ op) (h1 : op ≤ 68) (h : isB op rd rs1 rs2 imm csr = true) (hn : IntKind.u32.wrap imm = n) (hn0 : 0 ≤ n) (hn1 : n < 4294967296) (w : World) :
    Calls Tryd.prog 11 #[.agg #[.int .i64 op, .int .i64 rd, .int .i64 rs1, .int .i64 rs2, .int .i64 imm, .int .i64 csr]] w
      fun e w' => e = .returned (.tuple #[.int .u32 (opcI op + f3I op * 4096 + rs1 * 32768 + rd * 128 + 3145728 + f7I op * 33554432), .bool true]) ∧ Grown w w' := by
  obtain ⟨b0, b1, b2, b3, b4, b5, b6, b7⟩ := is_bounds h
  obtain ⟨k0, k1, k2, k3, k4, k5⟩ := codes_bd op
  have o0 : bits .or .u32 (opcI op) (f3I op * 4096) = opcI op + f3I op * 4096 := or_mid 12 15 (by decide) (by omega) (by omega) (low_of (opcI op) (0) (by omega) (by omega) (by omega) (by omega)) (by omega) (by omega) (by omega) (by omega)
  have o1 : bits .or .u32 (opcI op + f3I op * 4096) (rs1 * 32768) = opcI op + f3I op * 4096 + rs1 * 32768 := or_mid 15 20 (by decide) (by omega) (by omega) (low_of (opcI op + f3I op * 4096) (0) (by omega) (by omega) (by omega) (by omega)) (by omega) (by omega) (by omega) (by omega)
  have o2 : bits .or .u32 (opcI op + f3I op * 4096 + rs1 * 32768) (rd * 128) = opcI op + f3I op * 4096 + rs1 * 32768 + rd * 128 := or_mid 7 12 (by decide) (by omega) (by omega) (low_of (opcI op) (f3I op * 1 + rs1 * 8) (by omega) (by omega) (by omega) (by omega)) (by omega) (by omega) (by omega) (by omega)
  have o3 : bits .or .u32 (opcI op + f3I op * 4096 + rs1 * 32768 + rd * 128) (3145728) = opcI op + f3I op * 4096 + rs1 * 32768 + rd * 128 + 3145728 := or_mid 20 22 (by decide) (by omega) (by omega) (low_of (opcI op + f3I op * 4096 + rs1 * 32768 + rd * 128) (0) (by omega) (by omega) (by omega) (by omega)) (by omega) (by omega) (by omega) (by omega)
  have o4 : bits .or .u32 (opcI op + f3I op * 4096 + rs1 * 32768 + rd * 128 + 3145728) (f7I op * 33554432) = opcI op + f3I op * 4096 + rs1 * 32768 + rd * 128 + 3145728 + f7I op * 33554432 := or_mid 25 32 (by decide) (by omega) (by omega) (low_of (opcI op + f3I op * 4096 + rs1 * 32768 + rd * 128 + 3145728) (0) (by omega) (by omega) (by omega) (by omega)) (by omega) (by omega) (by omega) (by omega)
  have hc : clsI op = 12 := (cls_12 (by omega) (by omega)).symm
  have hfx : fixI op = 0 := fix_none (by omega)
  go_enter Tryd.func11, Tryd.ntmps11
  go_wp2_with (first | (go_at_call 21; refine (ris_any _ _ _ _ _ _ _).mono ?_; rintro e w' ⟨rfl, hg⟩; obtain ⟨c0, c1, c2, c3, c4, c5⟩ := (Six.new _ _ _ _ _ _ _ _).grown hg) | (go_at_call 22; refine (fixed_any _ _).mono ?_; rintro e w' ⟨rfl, rfl⟩) | (go_at_call 24; refine (rclass_any _ _).mono ?_; rintro e w' ⟨rfl, rfl⟩) | (go_at_call 23; refine (code_from hg _ (by omega) (by omega)).mono ?_; rintro e w' ⟨rfl, hg⟩; obtain ⟨c0, c1, c2, c3, c4, c5⟩ := (Six.new _ _ _ _ _ _ _ _).grown hg))
  all_goals
    go_ret2
    exact ⟨rfl, Grown.trans' ((Grown.refl _).alloc _ _) hg⟩
set_option linter.unusedVariables false in
set_option maxRecDepth 100000 in
set_option maxHeartbeats 2000000 in
theorem encode_G (op rd rs1 rs2 imm csr n : Int) (h0 : 66 ≤ op) (h1 : op ≤ 67) (h : isB op rd rs1 rs2 imm csr = true) (hn : IntKind.u32.wrap imm = n) (hn0 : 0 ≤ n) (hn1 : n < 4294967296) (w : World) :
    Calls Tryd.prog 11 #[.agg #[.int .i64 op, .int .i64 rd, .int .i64 rs1, .int .i64 rs2, .int .i64 imm, .int .i64 csr]] w
      fun e w' => e = .returned (.tuple #[.int .u32 (opcI op + f3I op * 4096 + rs1 * 32768 + rd * 128 + f7I op * 33554432), .bool true]) ∧ Grown w w' := by
  obtain ⟨b0, b1, b2, b3, b4, b5, b6, b7⟩ := is_bounds h
  obtain ⟨k0, k1, k2, k3, k4, k5⟩ := codes_bd op
  have o0 : bits .or .u32 (opcI op) (f3I op * 4096) = opcI op + f3I op * 4096 := or_mid 12 15 (by decide) (by omega) (by omega) (low_of (opcI op) (0) (by omega) (by omega) (by omega) (by omega)) (by omega) (by omega) (by omega) (by omega)
  have o1 : bits .or .u32 (opcI op + f3I op * 4096) (rs1 * 32768) = opcI op + f3I op * 4096 + rs1 * 32768 := or_mid 15 20 (by decide) (by omega) (by omega) (low_of (opcI op + f3I op * 4096) (0) (by omega) (by omega) (by omega) (by omega)) (by omega) (by omega) (by omega) (by omega)
  have o2 : bits .or .u32 (opcI op + f3I op * 4096 + rs1 * 32768) (rd * 128) = opcI op + f3I op * 4096 + rs1 * 32768 + rd * 128 := or_mid 7 12 (by decide) (by omega) (by omega) (low_of (opcI op) (f3I op * 1 + rs1 * 8) (by omega) (by omega) (by omega) (by omega)) (by omega) (by omega) (by omega) (by omega)
  have o3 : bits .or .u32 (opcI op + f3I op * 4096 + rs1 * 32768 + rd * 128) (f7I op * 33554432) = opcI op + f3I op * 4096 + rs1 * 32768 + rd * 128 + f7I op * 33554432 := or_mid 25 32 (by decide) (by omega) (by omega) (low_of (opcI op + f3I op * 4096 + rs1 * 32768 + rd * 128) (0) (by omega) (by omega) (by omega) (by omega)) (by omega) (by omega) (by omega) (by omega)
  have hc : clsI op = 12 := (cls_12 (by omega) (by omega)).symm
  have hfx : fixI op = 0 := fix_none (by omega)
  go_enter Tryd.func11, Tryd.ntmps11
  go_wp2_with (first | (go_at_call 21; refine (ris_any _ _ _ _ _ _ _).mono ?_; rintro e w' ⟨rfl, hg⟩; obtain ⟨c0, c1, c2, c3, c4, c5⟩ := (Six.new _ _ _ _ _ _ _ _).grown hg) | (go_at_call 22; refine (fixed_any _ _).mono ?_; rintro e w' ⟨rfl, rfl⟩) | (go_at_call 24; refine (rclass_any _ _).mono ?_; rintro e w' ⟨rfl, rfl⟩) | (go_at_call 23; refine (code_from hg _ (by omega) (by omega)).mono ?_; rintro e w' ⟨rfl, hg⟩; obtain ⟨c0, c1, c2, c3, c4, c5⟩ := (Six.new _ _ _ _ _ _ _ _).grown hg))
  all_goals
    go_ret2
    exact ⟨rfl, Grown.trans' ((Grown.refl _).alloc _ _) hg⟩
set_option linter.unusedVariables false in
set_option maxRecDepth 100000 in
set_option maxHeartbeats 2000000 in
theorem encode_H (op rd rs1 rs2 imm csr n : Int) (h0 : 28 ≤ op) (h1 : op ≤ 30) (h : isB op rd rs1 rs2 imm csr = true) (hn : IntKind.u32.wrap imm = n) (hn0 : 0 ≤ n) (hn1 : n < 4294967296) (w : World) :
    Calls Tryd.prog 11 #[.agg #[.int .i64 op, .int .i64 rd, .int .i64 rs1, .int .i64 rs2, .int .i64 imm, .int .i64 csr]] w
      fun e w' => e = .returned (.tuple #[.int .u32 (opcI op + f3I op * 4096 + rs1 * 32768 + rd * 128 + n % 64 * 1048576 + f7I op * 33554432), .bool true]) ∧ Grown w w' := by
  obtain ⟨b0, b1, b2, b3, b4, b5, b6, b7⟩ := is_bounds h
  obtain ⟨k0, k1, k2, k3, k4, k5⟩ := codes_bd op
  have hev : f7I op % 2 = 0 := codes_even (by omega)
  have a0 : bits .and .u32 (n) 63 = n % 64 := and63 (by omega) (by omega)
  have o0 : bits .or .u32 (opcI op) (f3I op * 4096) = opcI op + f3I op * 4096 := or_mid 12 15 (by decide) (by omega) (by omega) (low_of (opcI op) (0) (by omega) (by omega) (by omega) (by omega)) (by omega) (by omega) (by omega) (by omega)
  have o1 : bits .or .u32 (opcI op + f3I op * 4096) (rs1 * 32768) = opcI op + f3I op * 4096 + rs1 * 32768 := or_mid 15 20 (by decide) (by omega) (by omega) (low_of (opcI op + f3I op * 4096) (0) (by omega) (by omega) (by omega) (by omega)) (by omega) (by omega) (by omega) (by omega)
  have o2 : bits .or .u32 (opcI op + f3I op * 4096 + rs1 * 32768) (rd * 128) = opcI op + f3I op * 4096 + rs1 * 32768 + rd * 128 := or_mid 7 12 (by decide) (by omega) (by omega) (low_of (opcI op) (f3I op * 1 + rs1 * 8) (by omega) (by omega) (by omega) (by omega)) (by omega) (by omega) (by omega) (by omega)
  have o3 : bits .or .u32 (opcI op + f3I op * 4096 + rs1 * 32768 + rd * 128) (n % 64 * 1048576) = opcI op + f3I op * 4096 + rs1 * 32768 + rd * 128 + n % 64 * 1048576 := or_mid 20 26 (by decide) (by omega) (by omega) (low_of (opcI op + f3I op * 4096 + rs1 * 32768 + rd * 128) (0) (by omega) (by omega) (by omega) (by omega)) (by omega) (by omega) (by omega) (by omega)
  have hc : clsI op = 5 := (cls_5 (by omega) (by omega)).symm
  have hfx : fixI op = 0 := fix_none (by omega)
  rcases codes_h (op := op) (by omega) with hz | hz
  · have o4 : bits .or .u32 (opcI op + f3I op * 4096 + rs1 * 32768 + rd * 128 + n % 64 * 1048576) 0 = opcI op + f3I op * 4096 + rs1 * 32768 + rd * 128 + n % 64 * 1048576 + 0 := or_mid 26 32 (by decide) (by omega) (by omega) (low_of (opcI op + f3I op * 4096 + rs1 * 32768 + rd * 128 + n % 64 * 1048576) 0 (by omega) (by omega) (by omega) (by omega)) (by omega) (by omega) (by omega) (by omega)
    rw [hz]
    go_enter Tryd.func11, Tryd.ntmps11
    go_wp2_with (first | (go_at_call 21; refine (ris_any _ _ _ _ _ _ _).mono ?_; rintro e w' ⟨rfl, hg⟩; obtain ⟨c0, c1, c2, c3, c4, c5⟩ := (Six.new _ _ _ _ _ _ _ _).grown hg) | (go_at_call 22; refine (fixed_any _ _).mono ?_; rintro e w' ⟨rfl, rfl⟩) | (go_at_call 24; refine (rclass_any _ _).mono ?_; rintro e w' ⟨rfl, rfl⟩) | (go_at_call 23; refine (code_from hg _ (by omega) (by omega)).mono ?_; rintro e w' ⟨rfl, hg⟩; obtain ⟨c0, c1, c2, c3, c4, c5⟩ := (Six.new _ _ _ _ _ _ _ _).grown hg))
    all_goals
      go_ret2
      refine ⟨ret_enc (by go_light; omega), Grown.trans' ((Grown.refl _).alloc _ _) hg⟩
  · have o4 : bits .or .u32 (opcI op + f3I op * 4096 + rs1 * 32768 + rd * 128 + n % 64 * 1048576) 1073741824 = opcI op + f3I op * 4096 + rs1 * 32768 + rd * 128 + n % 64 * 1048576 + 1073741824 := or_mid 26 32 (by decide) (by omega) (by omega) (low_of (opcI op + f3I op * 4096 + rs1 * 32768 + rd * 128 + n % 64 * 1048576) 0 (by omega) (by omega) (by omega) (by omega)) (by omega) (by omega) (by omega) (by omega)
    rw [hz]
    go_enter Tryd.func11, Tryd.ntmps11
    go_wp2_with (first | (go_at_call 21; refine (ris_any _ _ _ _ _ _ _).mono ?_; rintro e w' ⟨rfl, hg⟩; obtain ⟨c0, c1, c2, c3, c4, c5⟩ := (Six.new _ _ _ _ _ _ _ _).grown hg) | (go_at_call 22; refine (fixed_any _ _).mono ?_; rintro e w' ⟨rfl, rfl⟩) | (go_at_call 24; refine (rclass_any _ _).mono ?_; rintro e w' ⟨rfl, rfl⟩) | (go_at_call 23; refine (code_from hg _ (by omega) (by omega)).mono ?_; rintro e w' ⟨rfl, hg⟩; obtain ⟨c0, c1, c2, c3, c4, c5⟩ := (Six.new _ _ _ _ _ _ _ _).grown hg))
    all_goals
      go_ret2
      refine ⟨ret_enc (by go_light; omega), Grown.trans' ((Grown.refl _).alloc _ _) hg⟩
set_option linter.unusedVariables false in
set_option maxRecDepth 100000 in
set_option maxHeartbeats 2000000 in
theorem encode_Hw (op rd rs1 rs2 imm csr n : Int) (h0 : 32 ≤ op) (h1 : op ≤ 34) (h : isB op rd rs1 rs2 imm csr = true) (hn : IntKind.u32.wrap imm = n) (hn0 : 0 ≤ n) (hn1 : n < 4294967296) (w : World) :
    Calls Tryd.prog 11 #[.agg #[.int .i64 op, .int .i64 rd, .int .i64 rs1, .int .i64 rs2, .int .i64 imm, .int .i64 csr]] w
      fun e w' => e = .returned (.tuple #[.int .u32 (opcI op + f3I op * 4096 + rs1 * 32768 + rd * 128 + n % 64 * 1048576 + f7I op * 33554432), .bool true]) ∧ Grown w w' := by
  obtain ⟨b0, b1, b2, b3, b4, b5, b6, b7⟩ := is_bounds h
  obtain ⟨k0, k1, k2, k3, k4, k5⟩ := codes_bd op
  have hev : f7I op % 2 = 0 := codes_even (by omega)
  have a0 : bits .and .u32 (n) 63 = n % 64 := and63 (by omega) (by omega)
  have o0 : bits .or .u32 (opcI op) (f3I op * 4096) = opcI op + f3I op * 4096 := or_mid 12 15 (by decide) (by omega) (by omega) (low_of (opcI op) (0) (by omega) (by omega) (by omega) (by omega)) (by omega) (by omega) (by omega) (by omega)
  have o1 : bits .or .u32 (opcI op + f3I op * 4096) (rs1 * 32768) = opcI op + f3I op * 4096 + rs1 * 32768 := or_mid 15 20 (by decide) (by omega) (by omega) (low_of (opcI op + f3I op * 4096) (0) (by omega) (by omega) (by omega) (by omega)) (by omega) (by omega) (by omega) (by omega)
  have o2 : bits .or .u32 (opcI op + f3I op * 4096 + rs1 * 32768) (rd * 128) = opcI op + f3I op * 4096 + rs1 * 32768 + rd * 128 := or_mid 7 12 (by decide) (by omega) (by omega) (low_of (opcI op) (f3I op * 1 + rs1 * 8) (by omega) (by omega) (by omega) (by omega)) (by omega) (by omega) (by omega) (by omega)
  have o3 : bits .or .u32 (opcI op + f3I op * 4096 + rs1 * 32768 + rd * 128) (n % 64 * 1048576) = opcI op + f3I op * 4096 + rs1 * 32768 + rd * 128 + n % 64 * 1048576 := or_mid 20 26 (by decide) (by omega) (by omega) (low_of (opcI op + f3I op * 4096 + rs1 * 32768 + rd * 128) (0) (by omega) (by omega) (by omega) (by omega)) (by omega) (by omega) (by omega) (by omega)
  have hc : clsI op = 5 := (cls_5 (by omega) (by omega)).symm
  have hfx : fixI op = 0 := fix_none (by omega)
  rcases codes_h (op := op) (by omega) with hz | hz
  · have o4 : bits .or .u32 (opcI op + f3I op * 4096 + rs1 * 32768 + rd * 128 + n % 64 * 1048576) 0 = opcI op + f3I op * 4096 + rs1 * 32768 + rd * 128 + n % 64 * 1048576 + 0 := or_mid 26 32 (by decide) (by omega) (by omega) (low_of (opcI op + f3I op * 4096 + rs1 * 32768 + rd * 128 + n % 64 * 1048576) 0 (by omega) (by omega) (by omega) (by omega)) (by omega) (by omega) (by omega) (by omega)
    rw [hz]
    go_enter Tryd.func11, Tryd.ntmps11
    go_wp2_with (first | (go_at_call 21; refine (ris_any _ _ _ _ _ _ _).mono ?_; rintro e w' ⟨rfl, hg⟩; obtain ⟨c0, c1, c2, c3, c4, c5⟩ := (Six.new _ _ _ _ _ _ _ _).grown hg) | (go_at_call 22; refine (fixed_any _ _).mono ?_; rintro e w' ⟨rfl, rfl⟩) | (go_at_call 24; refine (rclass_any _ _).mono ?_; rintro e w' ⟨rfl, rfl⟩) | (go_at_call 23; refine (code_from hg _ (by omega) (by omega)).mono ?_; rintro e w' ⟨rfl, hg⟩; obtain ⟨c0, c1, c2, c3, c4, c5⟩ := (Six.new _ _ _ _ _ _ _ _).grown hg))
    all_goals
      go_ret2
      refine ⟨ret_enc (by go_light; omega), Grown.trans' ((Grown.refl _).alloc _ _) hg⟩
  · have o4 : bits .or .u32 (opcI op + f3I op * 4096 + rs1 * 32768 + rd * 128 + n % 64 * 1048576) 1073741824 = opcI op + f3I op * 4096 + rs1 * 32768 + rd * 128 + n % 64 * 1048576 + 1073741824 := or_mid 26 32 (by decide) (by omega) (by omega) (low_of (opcI op + f3I op * 4096 + rs1 * 32768 + rd * 128 + n % 64 * 1048576) 0 (by omega) (by omega) (by omega) (by omega)) (by omega) (by omega) (by omega) (by omega)
    rw [hz]
    go_enter Tryd.func11, Tryd.ntmps11
    go_wp2_with (first | (go_at_call 21; refine (ris_any _ _ _ _ _ _ _).mono ?_; rintro e w' ⟨rfl, hg⟩; obtain ⟨c0, c1, c2, c3, c4, c5⟩ := (Six.new _ _ _ _ _ _ _ _).grown hg) | (go_at_call 22; refine (fixed_any _ _).mono ?_; rintro e w' ⟨rfl, rfl⟩) | (go_at_call 24; refine (rclass_any _ _).mono ?_; rintro e w' ⟨rfl, rfl⟩) | (go_at_call 23; refine (code_from hg _ (by omega) (by omega)).mono ?_; rintro e w' ⟨rfl, hg⟩; obtain ⟨c0, c1, c2, c3, c4, c5⟩ := (Six.new _ _ _ _ _ _ _ _).grown hg))
    all_goals
      go_ret2
      refine ⟨ret_enc (by go_light; omega), Grown.trans' ((Grown.refl _).alloc _ _) hg⟩
set_option linter.unusedVariables false in
set_option maxRecDepth 100000 in
set_option maxHeartbeats 2000000 in
theorem encode_Jr (op rd rs1 rs2 imm csr n : Int) (h0 : 4 ≤ op) (h1 : op ≤ 4) (h : isB op rd rs1 rs2 imm csr = true) (hn : IntKind.u32.wrap imm = n) (hn0 : 0 ≤ n) (hn1 : n < 4294967296) (w : World) :
    Calls Tryd.prog 11 #[.agg #[.int .i64 op, .int .i64 rd, .int .i64 rs1, .int .i64 rs2, .int .i64 imm, .int .i64 csr]] w
      fun e w' => e = .returned (.tuple #[.int .u32 (opcI op + f3I op * 4096 + rs1 * 32768 + rd * 128 + n % 4096 * 1048576), .bool true]) ∧ Grown w w' := by
  obtain ⟨b0, b1, b2, b3, b4, b5, b6, b7⟩ := is_bounds h
  obtain ⟨k0, k1, k2, k3, k4, k5⟩ := codes_bd op
  have hz7 : f7I op = 0 := codes_zero (by omega)
  have a0 : bits .and .u32 (n) 4095 = n % 4096 := and4095 (by omega) (by omega)
  have o0 : bits .or .u32 (opcI op) (f3I op * 4096) = opcI op + f3I op * 4096 := or_mid 12 15 (by decide) (by omega) (by omega) (low_of (opcI op) (0) (by omega) (by omega) (by omega) (by omega)) (by omega) (by omega) (by omega) (by omega)
  have o1 : bits .or .u32 (opcI op + f3I op * 4096) (rs1 * 32768) = opcI op + f3I op * 4096 + rs1 * 32768 := or_mid 15 20 (by decide) (by omega) (by omega) (low_of (opcI op + f3I op * 4096) (0) (by omega) (by omega) (by omega) (by omega)) (by omega) (by omega) (by omega) (by omega)
  have o2 : bits .or .u32 (opcI op + f3I op * 4096 + rs1 * 32768) (rd * 128) = opcI op + f3I op * 4096 + rs1 * 32768 + rd * 128 := or_mid 7 12 (by decide) (by omega) (by omega) (low_of (opcI op) (f3I op * 1 + rs1 * 8) (by omega) (by omega) (by omega) (by omega)) (by omega) (by omega) (by omega) (by omega)
  have o3 : bits .or .u32 (opcI op + f3I op * 4096 + rs1 * 32768 + rd * 128) (n % 4096 * 1048576) = opcI op + f3I op * 4096 + rs1 * 32768 + rd * 128 + n % 4096 * 1048576 := or_mid 20 32 (by decide) (by omega) (by omega) (low_of (opcI op + f3I op * 4096 + rs1 * 32768 + rd * 128) (0) (by omega) (by omega) (by omega) (by omega)) (by omega) (by omega) (by omega) (by omega)
  have hc : clsI op = 1 := (cls_1 (by omega) (by omega)).symm
  have hfx : fixI op = 0 := fix_none (by omega)
  go_enter Tryd.func11, Tryd.ntmps11
  go_wp2_with (first | (go_at_call 21; refine (ris_any _ _ _ _ _ _ _).mono ?_; rintro e w' ⟨rfl, hg⟩; obtain ⟨c0, c1, c2, c3, c4, c5⟩ := (Six.new _ _ _ _ _ _ _ _).grown hg) | (go_at_call 22; refine (fixed_any _ _).mono ?_; rintro e w' ⟨rfl, rfl⟩) | (go_at_call 24; refine (rclass_any _ _).mono ?_; rintro e w' ⟨rfl, rfl⟩) | (go_at_call 23; refine (code_from hg _ (by omega) (by omega)).mono ?_; rintro e w' ⟨rfl, hg⟩; obtain ⟨c0, c1, c2, c3, c4, c5⟩ := (Six.new _ _ _ _ _ _ _ _).grown hg))
  all_goals
    go_ret2
    exact ⟨rfl, Grown.trans' ((Grown.refl _).alloc _ _) hg⟩
set_option linter.unusedVariables false in
set_option maxRecDepth 100000 in
set_option maxHeartbeats 2000000 in
theorem encode_L (op rd rs1 rs2 imm csr n : Int) (h0 : 11 ≤ op) (h1 : op ≤ 17) (h : isB op rd rs1 rs2 imm csr = true) (hn : IntKind.u32.wrap imm = n) (hn0 : 0 ≤ n) (hn1 : n < 4294967296) (w : World) :
    Calls Tryd.prog 11 #[.agg #[.int .i64 op, .int .i64 rd, .int .i64 rs1, .int .i64 rs2, .int .i64 imm, .int .i64 csr]] w
      fun e w' => e = .returned (.tuple #[.int .u32 (opcI op + f3I op * 4096 + rs1 * 32768 + rd * 128 + n % 4096 * 1048576), .bool true]) ∧ Grown w w' := by
  obtain ⟨b0, b1, b2, b3, b4, b5, b6, b7⟩ := is_bounds h
  obtain ⟨k0, k1, k2, k3, k4, k5⟩ := codes_bd op
  have hz7 : f7I op = 0 := codes_zero (by omega)
  have a0 : bits .and .u32 (n) 4095 = n % 4096 := and4095 (by omega) (by omega)
  have o0 : bits .or .u32 (opcI op) (f3I op * 4096) = opcI op + f3I op * 4096 := or_mid 12 15 (by decide) (by omega) (by omega) (low_of (opcI op) (0) (by omega) (by omega) (by omega) (by omega)) (by omega) (by omega) (by omega) (by omega)
  have o1 : bits .or .u32 (opcI op + f3I op * 4096) (rs1 * 32768) = opcI op + f3I op * 4096 + rs1 * 32768 := or_mid 15 20 (by decide) (by omega) (by omega) (low_of (opcI op + f3I op * 4096) (0) (by omega) (by omega) (by omega) (by omega)) (by omega) (by omega) (by omega) (by omega)
  have o2 : bits .or .u32 (opcI op + f3I op * 4096 + rs1 * 32768) (rd * 128) = opcI op + f3I op * 4096 + rs1 * 32768 + rd * 128 := or_mid 7 12 (by decide) (by omega) (by omega) (low_of (opcI op) (f3I op * 1 + rs1 * 8) (by omega) (by omega) (by omega) (by omega)) (by omega) (by omega) (by omega) (by omega)
  have o3 : bits .or .u32 (opcI op + f3I op * 4096 + rs1 * 32768 + rd * 128) (n % 4096 * 1048576) = opcI op + f3I op * 4096 + rs1 * 32768 + rd * 128 + n % 4096 * 1048576 := or_mid 20 32 (by decide) (by omega) (by omega) (low_of (opcI op + f3I op * 4096 + rs1 * 32768 + rd * 128) (0) (by omega) (by omega) (by omega) (by omega)) (by omega) (by omega) (by omega) (by omega)
  have hc : clsI op = 3 := (cls_3 (by omega) (by omega)).symm
  have hfx : fixI op = 0 := fix_none (by omega)
  go_enter Tryd.func11, Tryd.ntmps11
  go_wp2_with (first | (go_at_call 21; refine (ris_any _ _ _ _ _ _ _).mono ?_; rintro e w' ⟨rfl, hg⟩; obtain ⟨c0, c1, c2, c3, c4, c5⟩ := (Six.new _ _ _ _ _ _ _ _).grown hg) | (go_at_call 22; refine (fixed_any _ _).mono ?_; rintro e w' ⟨rfl, rfl⟩) | (go_at_call 24; refine (rclass_any _ _).mono ?_; rintro e w' ⟨rfl, rfl⟩) | (go_at_call 23; refine (code_from hg _ (by omega) (by omega)).mono ?_; rintro e w' ⟨rfl, hg⟩; obtain ⟨c0, c1, c2, c3, c4, c5⟩ := (Six.new _ _ _ _ _ _ _ _).grown hg))
  all_goals
    go_ret2
    exact ⟨rfl, Grown.trans' ((Grown.refl _).alloc _ _) hg⟩
set_option linter.unusedVariables false in
set_option maxRecDepth 100000 in
set_option maxHeartbeats 2000000 in
theorem encode_I (op rd rs1 rs2 imm csr n : Int) (h0 : 22 ≤ op) (h1 : op ≤ 27) (h : isB op rd rs1 rs2 imm csr = true) (hn : IntKind.u32.wrap imm = n) (hn0 : 0 ≤ n) (hn1 : n < 4294967296) (w : World) :
    Calls Tryd.prog 11 #[.agg #[.int .i64 op, .int .i64 rd, .int .i64 rs1, .int .i64 rs2, .int .i64 imm, .int .i64 csr]] w
      fun e w' => e = .returned (.tuple #[.int .u32 (opcI op + f3I op * 4096 + rs1 * 32768 + rd * 128 + n % 4096 * 1048576), .bool true]) ∧ Grown w w' := by
  obtain ⟨b0, b1, b2, b3, b4, b5, b6, b7⟩ := is_bounds h
  obtain ⟨k0, k1, k2, k3, k4, k5⟩ := codes_bd op
  have hz7 : f7I op = 0 := codes_zero (by omega)
  have a0 : bits .and .u32 (n) 4095 = n % 4096 := and4095 (by omega) (by omega)
  have o0 : bits .or .u32 (opcI op) (f3I op * 4096) = opcI op + f3I op * 4096 := or_mid 12 15 (by decide) (by omega) (by omega) (low_of (opcI op) (0) (by omega) (by omega) (by omega) (by omega)) (by omega) (by omega) (by omega) (by omega)
  have o1 : bits .or .u32 (opcI op + f3I op * 4096) (rs1 * 32768) = opcI op + f3I op * 4096 + rs1 * 32768 := or_mid 15 20 (by decide) (by omega) (by omega) (low_of (opcI op + f3I op * 4096) (0) (by omega) (by omega) (by omega) (by omega)) (by omega) (by omega) (by omega) (by omega)
  have o2 : bits .or .u32 (opcI op + f3I op * 4096 + rs1 * 32768) (rd * 128) = opcI op + f3I op * 4096 + rs1 * 32768 + rd * 128 := or_mid 7 12 (by decide) (by omega) (by omega) (low_of (opcI op) (f3I op * 1 + rs1 * 8) (by omega) (by omega) (by omega) (by omega)) (by omega) (by omega) (by omega) (by omega)
  have o3 : bits .or .u32 (opcI op + f3I op * 4096 + rs1 * 32768 + rd * 128) (n % 4096 * 1048576) = opcI op + f3I op * 4096 + rs1 * 32768 + rd * 128 + n % 4096 * 1048576 := or_mid 20 32 (by decide) (by omega) (by omega) (low_of (opcI op + f3I op * 4096 + rs1 * 32768 + rd * 128) (0) (by omega) (by omega) (by omega) (by omega)) (by omega) (by omega) (by omega) (by omega)
  have hc : clsI op = 5 := (cls_5 (by omega) (by omega)).symm
  have hfx : fixI op = 0 := fix_none (by omega)
  go_enter Tryd.func11, Tryd.ntmps11
  go_wp2_with (first | (go_at_call 21; refine (ris_any _ _ _ _ _ _ _).mono ?_; rintro e w' ⟨rfl, hg⟩; obtain ⟨c0, c1, c2, c3, c4, c5⟩ := (Six.new _ _ _ _ _ _ _ _).grown hg) | (go_at_call 22; refine (fixed_any _ _).mono ?_; rintro e w' ⟨rfl, rfl⟩) | (go_at_call 24; refine (rclass_any _ _).mono ?_; rintro e w' ⟨rfl, rfl⟩) | (go_at_call 23; refine (code_from hg _ (by omega) (by omega)).mono ?_; rintro e w' ⟨rfl, hg⟩; obtain ⟨c0, c1, c2, c3, c4, c5⟩ := (Six.new _ _ _ _ _ _ _ _).grown hg))
  all_goals
    go_ret2
    exact ⟨rfl, Grown.trans' ((Grown.refl _).alloc _ _) hg⟩
set_option linter.unusedVariables false in
set_option maxRecDepth 100000 in
set_option maxHeartbeats 2000000 in
theorem encode_Iw (op rd rs1 rs2 imm csr n : Int) (h0 : 31 ≤ op) (h1 : op ≤ 31) (h : isB op rd rs1 rs2 imm csr = true) (hn : IntKind.u32.wrap imm = n) (hn0 : 0 ≤ n) (hn1 : n < 4294967296) (w : World) :
    Calls Tryd.prog 11 #[.agg #[.int .i64 op, .int .i64 rd, .int .i64 rs1, .int .i64 rs2, .int .i64 imm, .int .i64 csr]] w
      fun e w' => e = .returned (.tuple #[.int .u32 (opcI op + f3I op * 4096 + rs1 * 32768 + rd * 128 + n % 4096 * 1048576), .bool true]) ∧ Grown w w' := by
  obtain ⟨b0, b1, b2, b3, b4, b5, b6, b7⟩ := is_bounds h
  obtain ⟨k0, k1, k2, k3, k4, k5⟩ := codes_bd op
  have hz7 : f7I op = 0 := codes_zero (by omega)
  have a0 : bits .and .u32 (n) 4095 = n % 4096 := and4095 (by omega) (by omega)
  have o0 : bits .or .u32 (opcI op) (f3I op * 4096) = opcI op + f3I op * 4096 := or_mid 12 15 (by decide) (by omega) (by omega) (low_of (opcI op) (0) (by omega) (by omega) (by omega) (by omega)) (by omega) (by omega) (by omega) (by omega)
  have o1 : bits .or .u32 (opcI op + f3I op * 4096) (rs1 * 32768) = opcI op + f3I op * 4096 + rs1 * 32768 := or_mid 15 20 (by decide) (by omega) (by omega) (low_of (opcI op + f3I op * 4096) (0) (by omega) (by omega) (by omega) (by omega)) (by omega) (by omega) (by omega) (by omega)
  have o2 : bits .or .u32 (opcI op + f3I op * 4096 + rs1 * 32768) (rd * 128) = opcI op + f3I op * 4096 + rs1 * 32768 + rd * 128 := or_mid 7 12 (by decide) (by omega) (by omega) (low_of (opcI op) (f3I op * 1 + rs1 * 8) (by omega) (by omega) (by omega) (by omega)) (by omega) (by omega) (by omega) (by omega)
  have o3 : bits .or .u32 (opcI op + f3I op * 4096 + rs1 * 32768 + rd * 128) (n % 4096 * 1048576) = opcI op + f3I op * 4096 + rs1 * 32768 + rd * 128 + n % 4096 * 1048576 := or_mid 20 32 (by decide) (by omega) (by omega) (low_of (opcI op + f3I op * 4096 + rs1 * 32768 + rd * 128) (0) (by omega) (by omega) (by omega) (by omega)) (by omega) (by omega) (by omega) (by omega)
  have hc : clsI op = 5 := (cls_5 (by omega) (by omega)).symm
  have hfx : fixI op = 0 := fix_none (by omega)
  go_enter Tryd.func11, Tryd.ntmps11
  go_wp2_with (first | (go_at_call 21; refine (ris_any _ _ _ _ _ _ _).mono ?_; rintro e w' ⟨rfl, hg⟩; obtain ⟨c0, c1, c2, c3, c4, c5⟩ := (Six.new _ _ _ _ _ _ _ _).grown hg) | (go_at_call 22; refine (fixed_any _ _).mono ?_; rintro e w' ⟨rfl, rfl⟩) | (go_at_call 24; refine (rclass_any _ _).mono ?_; rintro e w' ⟨rfl, rfl⟩) | (go_at_call 23; refine (code_from hg _ (by omega) (by omega)).mono ?_; rintro e w' ⟨rfl, hg⟩; obtain ⟨c0, c1, c2, c3, c4, c5⟩ := (Six.new _ _ _ _ _ _ _ _).grown hg))
  all_goals
    go_ret2
    exact ⟨rfl, Grown.trans' ((Grown.refl _).alloc _ _) hg⟩
end Go.Proofs.YtdogjmimjjmmaaaDoor
