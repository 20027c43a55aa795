/-
  What the document's Encode answers (the reference of layers 3 and 4): walked, kind of operation by kind.
-/
import Derived.Test.YtdogjmimjjmmaaaDoorRefEncBase
namespace Go.Proofs.YtdogjmimjjmmaaaDoor
open Go.RowKit
set_option linter.unusedVariables false in
set_option maxRecDepth 100000 in
set_option maxHeartbeats 2000000 in
theorem encode_U (op rd rs1 rs2 imm csr n : Int) (h0 : 1 ≤ op) (h1 : op ≤ 2) (h : isB op rd rs1 rs2 imm csr = true) (hn : IntKind.u32.wrap imm = n) (hn0 : 0 ≤ n) (hn1 : n < 4294967296) (w : World) :
    Calls Tryd.prog 11 #[.agg #[.int .i64 op, .int .i64 rd, .int .i64 rs1, .int .i64 rs2, .int .i64 imm, .int .i64 csr]] w
      fun e w' => e = .returned (.tuple #[.int .u32 (opcI op + rd * 128 + n / 4096 * 4096), .bool true]) ∧ Grown w w' := by
  obtain ⟨b0, b1, b2, b3, b4, b5, b6, b7⟩ := is_bounds h
  obtain ⟨k0, k1, k2, k3, k4, k5⟩ := codes_bd op
  have a0 : bits .and .u32 n 4294963200 = n / 4096 * 4096 := and_top hn0 hn1
  have o0 : bits .or .u32 (opcI op) (rd * 128) = opcI op + rd * 128 := or_mid 7 12 (by decide) (by omega) (by omega) (low_of (opcI op) (0) (by omega) (by omega) (by omega) (by omega)) (by omega) (by omega) (by omega) (by omega)
  have o1 : bits .or .u32 (opcI op + rd * 128) (n / 4096 * 4096) = opcI op + rd * 128 + n / 4096 * 4096 := or_mid 12 32 (by decide) (by omega) (by omega) (low_of (opcI op + rd * 128) (0) (by omega) (by omega) (by omega) (by omega)) (by omega) (by omega) (by omega) (by omega)
  have hc : clsI op = 1 := (cls_1 (by omega) (by omega)).symm
  have hfx : fixI op = 0 := fix_none (by omega)
  go_enter Tryd.func11, Tryd.ntmps11
  go_wp2_with (first | (go_at_call 21; refine (ris_any _ _ _ _ _ _ _).mono ?_; rintro e w' ⟨rfl, hg⟩; obtain ⟨c0, c1, c2, c3, c4, c5⟩ := (Six.new _ _ _ _ _ _ _ _).grown hg) | (go_at_call 22; refine (fixed_any _ _).mono ?_; rintro e w' ⟨rfl, rfl⟩) | (go_at_call 24; refine (rclass_any _ _).mono ?_; rintro e w' ⟨rfl, rfl⟩) | (go_at_call 23; refine (code_from hg _ (by omega) (by omega)).mono ?_; rintro e w' ⟨rfl, hg⟩; obtain ⟨c0, c1, c2, c3, c4, c5⟩ := (Six.new _ _ _ _ _ _ _ _).grown hg))
  all_goals
    go_ret2
    exact ⟨rfl, Grown.trans' ((Grown.refl _).alloc _ _) hg⟩
set_option linter.unusedVariables false in
set_option maxRecDepth 100000 in
set_option maxHeartbeats 2000000 in
theorem encode_J (op rd rs1 rs2 imm csr n : Int) (h0 : 3 ≤ op) (h1 : op ≤ 3) (h : isB op rd rs1 rs2 imm csr = true) (hn : IntKind.u32.wrap imm = n) (hn0 : 0 ≤ n) (hn1 : n < 4294967296) (w : World) :
    Calls Tryd.prog 11 #[.agg #[.int .i64 op, .int .i64 rd, .int .i64 rs1, .int .i64 rs2, .int .i64 imm, .int .i64 csr]] w
      fun e w' => e = .returned (.tuple #[.int .u32 (opcI op + rd * 128 + n / 1048576 % 2 * 2147483648 + n / 4096 % 256 * 4096 + n / 2048 % 2 * 1048576 + n / 2 % 1024 * 2097152), .bool true]) ∧ Grown w w' := by
  obtain ⟨b0, b1, b2, b3, b4, b5, b6, b7⟩ := is_bounds h
  obtain ⟨k0, k1, k2, k3, k4, k5⟩ := codes_bd op
  have a0 : bits .and .u32 (n / 1048576) 1 = n / 1048576 % 2 := and1 (by omega) (by omega)
  have a1 : bits .and .u32 (n / 4096) 255 = n / 4096 % 256 := and255 (by omega) (by omega)
  have a2 : bits .and .u32 (n / 2048) 1 = n / 2048 % 2 := and1 (by omega) (by omega)
  have a3 : bits .and .u32 (n / 2) 1023 = n / 2 % 1024 := and1023 (by omega) (by omega)
  have o0 : bits .or .u32 (opcI op) (rd * 128) = opcI op + rd * 128 := or_mid 7 12 (by decide) (by omega) (by omega) (low_of (opcI op) (0) (by omega) (by omega) (by omega) (by omega)) (by omega) (by omega) (by omega) (by omega)
  have o1 : bits .or .u32 (opcI op + rd * 128) (n / 1048576 % 2 * 2147483648) = opcI op + rd * 128 + n / 1048576 % 2 * 2147483648 := or_mid 31 32 (by decide) (by omega) (by omega) (low_of (opcI op + rd * 128) (0) (by omega) (by omega) (by omega) (by omega)) (by omega) (by omega) (by omega) (by omega)
  have o2 : bits .or .u32 (opcI op + rd * 128 + n / 1048576 % 2 * 2147483648) (n / 4096 % 256 * 4096) = opcI op + rd * 128 + n / 1048576 % 2 * 2147483648 + n / 4096 % 256 * 4096 := or_mid 12 20 (by decide) (by omega) (by omega) (low_of (opcI op + rd * 128) (n / 1048576 % 2 * 2048) (by omega) (by omega) (by omega) (by omega)) (by omega) (by omega) (by omega) (by omega)
  have o3 : bits .or .u32 (opcI op + rd * 128 + n / 1048576 % 2 * 2147483648 + n / 4096 % 256 * 4096) (n / 2048 % 2 * 1048576) = opcI op + rd * 128 + n / 1048576 % 2 * 2147483648 + n / 4096 % 256 * 4096 + n / 2048 % 2 * 1048576 := or_mid 20 21 (by decide) (by omega) (by omega) (low_of (opcI op + rd * 128 + n / 4096 % 256 * 4096) (n / 1048576 % 2 * 1024) (by omega) (by omega) (by omega) (by omega)) (by omega) (by omega) (by omega) (by omega)
  have o4 : bits .or .u32 (opcI op + rd * 128 + n / 1048576 % 2 * 2147483648 + n / 4096 % 256 * 4096 + n / 2048 % 2 * 1048576) (n / 2 % 1024 * 2097152) = opcI op + rd * 128 + n / 1048576 % 2 * 2147483648 + n / 4096 % 256 * 4096 + n / 2048 % 2 * 1048576 + n / 2 % 1024 * 2097152 := or_mid 21 31 (by decide) (by omega) (by omega) (low_of (opcI op + rd * 128 + n / 4096 % 256 * 4096 + n / 2048 % 2 * 1048576) (n / 1048576 % 2 * 1) (by omega) (by omega) (by omega) (by omega)) (by omega) (by omega) (by omega) (by omega)
  have hc : clsI op = 1 := (cls_1 (by omega) (by omega)).symm
  have hfx : fixI op = 0 := fix_none (by omega)
  go_enter Tryd.func11, Tryd.ntmps11
  go_wp2_with (first | (go_at_call 21; refine (ris_any _ _ _ _ _ _ _).mono ?_; rintro e w' ⟨rfl, hg⟩; obtain ⟨c0, c1, c2, c3, c4, c5⟩ := (Six.new _ _ _ _ _ _ _ _).grown hg) | (go_at_call 22; refine (fixed_any _ _).mono ?_; rintro e w' ⟨rfl, rfl⟩) | (go_at_call 24; refine (rclass_any _ _).mono ?_; rintro e w' ⟨rfl, rfl⟩) | (go_at_call 23; refine (code_from hg _ (by omega) (by omega)).mono ?_; rintro e w' ⟨rfl, hg⟩; obtain ⟨c0, c1, c2, c3, c4, c5⟩ := (Six.new _ _ _ _ _ _ _ _).grown hg))
  all_goals
    go_ret2
    exact ⟨rfl, Grown.trans' ((Grown.refl _).alloc _ _) hg⟩
set_option linter.unusedVariables false in
set_option maxRecDepth 100000 in
set_option maxHeartbeats 2000000 in
theorem encode_B (op rd rs1 rs2 imm csr n : Int) (h0 : 5 ≤ op) (h1 : op ≤ 10) (h : isB op rd rs1 rs2 imm csr = true) (hn : IntKind.u32.wrap imm = n) (hn0 : 0 ≤ n) (hn1 : n < 4294967296) (w : World) :
    Calls Tryd.prog 11 #[.agg #[.int .i64 op, .int .i64 rd, .int .i64 rs1, .int .i64 rs2, .int .i64 imm, .int .i64 csr]] w
      fun e w' => e = .returned (.tuple #[.int .u32 (opcI op + f3I op * 4096 + rs1 * 32768 + rs2 * 1048576 + n / 4096 % 2 * 2147483648 + n / 2048 % 2 * 128 + n / 32 % 64 * 33554432 + n / 2 % 16 * 256), .bool true]) ∧ Grown w w' := by
  obtain ⟨b0, b1, b2, b3, b4, b5, b6, b7⟩ := is_bounds h
  obtain ⟨k0, k1, k2, k3, k4, k5⟩ := codes_bd op
  have a0 : bits .and .u32 (n / 4096) 1 = n / 4096 % 2 := and1 (by omega) (by omega)
  have a1 : bits .and .u32 (n / 2048) 1 = n / 2048 % 2 := and1 (by omega) (by omega)
  have a2 : bits .and .u32 (n / 32) 63 = n / 32 % 64 := and63 (by omega) (by omega)
  have a3 : bits .and .u32 (n / 2) 15 = n / 2 % 16 := and15 (by omega) (by omega)
  have o0 : bits .or .u32 (opcI op) (f3I op * 4096) = opcI op + f3I op * 4096 := or_mid 12 15 (by decide) (by omega) (by omega) (low_of (opcI op) (0) (by omega) (by omega) (by omega) (by omega)) (by omega) (by omega) (by omega) (by omega)
  have o1 : bits .or .u32 (opcI op + f3I op * 4096) (rs1 * 32768) = opcI op + f3I op * 4096 + rs1 * 32768 := or_mid 15 20 (by decide) (by omega) (by omega) (low_of (opcI op + f3I op * 4096) (0) (by omega) (by omega) (by omega) (by omega)) (by omega) (by omega) (by omega) (by omega)
  have o2 : bits .or .u32 (opcI op + f3I op * 4096 + rs1 * 32768) (rs2 * 1048576) = opcI op + f3I op * 4096 + rs1 * 32768 + rs2 * 1048576 := or_mid 20 25 (by decide) (by omega) (by omega) (low_of (opcI op + f3I op * 4096 + rs1 * 32768) (0) (by omega) (by omega) (by omega) (by omega)) (by omega) (by omega) (by omega) (by omega)
  have o3 : bits .or .u32 (opcI op + f3I op * 4096 + rs1 * 32768 + rs2 * 1048576) (n / 4096 % 2 * 2147483648) = opcI op + f3I op * 4096 + rs1 * 32768 + rs2 * 1048576 + n / 4096 % 2 * 2147483648 := or_mid 31 32 (by decide) (by omega) (by omega) (low_of (opcI op + f3I op * 4096 + rs1 * 32768 + rs2 * 1048576) (0) (by omega) (by omega) (by omega) (by omega)) (by omega) (by omega) (by omega) (by omega)
  have o4 : bits .or .u32 (opcI op + f3I op * 4096 + rs1 * 32768 + rs2 * 1048576 + n / 4096 % 2 * 2147483648) (n / 2048 % 2 * 128) = opcI op + f3I op * 4096 + rs1 * 32768 + rs2 * 1048576 + n / 4096 % 2 * 2147483648 + n / 2048 % 2 * 128 := or_mid 7 8 (by decide) (by omega) (by omega) (low_of (opcI op) (f3I op * 16 + rs1 * 128 + rs2 * 4096 + n / 4096 % 2 * 8388608) (by omega) (by omega) (by omega) (by omega)) (by omega) (by omega) (by omega) (by omega)
  have o5 : bits .or .u32 (opcI op + f3I op * 4096 + rs1 * 32768 + rs2 * 1048576 + n / 4096 % 2 * 2147483648 + n / 2048 % 2 * 128) (n / 32 % 64 * 33554432) = opcI op + f3I op * 4096 + rs1 * 32768 + rs2 * 1048576 + n / 4096 % 2 * 2147483648 + n / 2048 % 2 * 128 + n / 32 % 64 * 33554432 := or_mid 25 31 (by decide) (by omega) (by omega) (low_of (opcI op + f3I op * 4096 + rs1 * 32768 + rs2 * 1048576 + n / 2048 % 2 * 128) (n / 4096 % 2 * 1) (by omega) (by omega) (by omega) (by omega)) (by omega) (by omega) (by omega) (by omega)
  have o6 : bits .or .u32 (opcI op + f3I op * 4096 + rs1 * 32768 + rs2 * 1048576 + n / 4096 % 2 * 2147483648 + n / 2048 % 2 * 128 + n / 32 % 64 * 33554432) (n / 2 % 16 * 256) = opcI op + f3I op * 4096 + rs1 * 32768 + rs2 * 1048576 + n / 4096 % 2 * 2147483648 + n / 2048 % 2 * 128 + n / 32 % 64 * 33554432 + n / 2 % 16 * 256 := or_mid 8 12 (by decide) (by omega) (by omega) (low_of (opcI op + n / 2048 % 2 * 128) (f3I op * 1 + rs1 * 8 + rs2 * 256 + n / 4096 % 2 * 524288 + n / 32 % 64 * 8192) (by omega) (by omega) (by omega) (by omega)) (by omega) (by omega) (by omega) (by omega)
  have hc : clsI op = 2 := (cls_2 (by omega) (by omega)).symm
  have hfx : fixI op = 0 := fix_none (by omega)
  go_enter Tryd.func11, Tryd.ntmps11
  go_wp2_with (first | (go_at_call 21; refine (ris_any _ _ _ _ _ _ _).mono ?_; rintro e w' ⟨rfl, hg⟩; obtain ⟨c0, c1, c2, c3, c4, c5⟩ := (Six.new _ _ _ _ _ _ _ _).grown hg) | (go_at_call 22; refine (fixed_any _ _).mono ?_; rintro e w' ⟨rfl, rfl⟩) | (go_at_call 24; refine (rclass_any _ _).mono ?_; rintro e w' ⟨rfl, rfl⟩) | (go_at_call 23; refine (code_from hg _ (by omega) (by omega)).mono ?_; rintro e w' ⟨rfl, hg⟩; obtain ⟨c0, c1, c2, c3, c4, c5⟩ := (Six.new _ _ _ _ _ _ _ _).grown hg))
  all_goals
    go_ret2
    exact ⟨rfl, Grown.trans' ((Grown.refl _).alloc _ _) hg⟩
set_option linter.unusedVariables false in
set_option maxRecDepth 100000 in
set_option maxHeartbeats 2000000 in
theorem encode_S (op rd rs1 rs2 imm csr n : Int) (h0 : 18 ≤ op) (h1 : op ≤ 21) (h : isB op rd rs1 rs2 imm csr = true) (hn : IntKind.u32.wrap imm = n) (hn0 : 0 ≤ n) (hn1 : n < 4294967296) (w : World) :
    Calls Tryd.prog 11 #[.agg #[.int .i64 op, .int .i64 rd, .int .i64 rs1, .int .i64 rs2, .int .i64 imm, .int .i64 csr]] w
      fun e w' => e = .returned (.tuple #[.int .u32 (opcI op + f3I op * 4096 + rs1 * 32768 + rs2 * 1048576 + n / 32 % 128 * 33554432 + n % 32 * 128), .bool true]) ∧ Grown w w' := by
  obtain ⟨b0, b1, b2, b3, b4, b5, b6, b7⟩ := is_bounds h
  obtain ⟨k0, k1, k2, k3, k4, k5⟩ := codes_bd op
  have a0 : bits .and .u32 (n / 32) 127 = n / 32 % 128 := and127 (by omega) (by omega)
  have a1 : bits .and .u32 (n) 31 = n % 32 := and31 (by omega) (by omega)
  have o0 : bits .or .u32 (opcI op) (f3I op * 4096) = opcI op + f3I op * 4096 := or_mid 12 15 (by decide) (by omega) (by omega) (low_of (opcI op) (0) (by omega) (by omega) (by omega) (by omega)) (by omega) (by omega) (by omega) (by omega)
  have o1 : bits .or .u32 (opcI op + f3I op * 4096) (rs1 * 32768) = opcI op + f3I op * 4096 + rs1 * 32768 := or_mid 15 20 (by decide) (by omega) (by omega) (low_of (opcI op + f3I op * 4096) (0) (by omega) (by omega) (by omega) (by omega)) (by omega) (by omega) (by omega) (by omega)
  have o2 : bits .or .u32 (opcI op + f3I op * 4096 + rs1 * 32768) (rs2 * 1048576) = opcI op + f3I op * 4096 + rs1 * 32768 + rs2 * 1048576 := or_mid 20 25 (by decide) (by omega) (by omega) (low_of (opcI op + f3I op * 4096 + rs1 * 32768) (0) (by omega) (by omega) (by omega) (by omega)) (by omega) (by omega) (by omega) (by omega)
  have o3 : bits .or .u32 (opcI op + f3I op * 4096 + rs1 * 32768 + rs2 * 1048576) (n / 32 % 128 * 33554432) = opcI op + f3I op * 4096 + rs1 * 32768 + rs2 * 1048576 + n / 32 % 128 * 33554432 := or_mid 25 32 (by decide) (by omega) (by omega) (low_of (opcI op + f3I op * 4096 + rs1 * 32768 + rs2 * 1048576) (0) (by omega) (by omega) (by omega) (by omega)) (by omega) (by omega) (by omega) (by omega)
  have o4 : bits .or .u32 (opcI op + f3I op * 4096 + rs1 * 32768 + rs2 * 1048576 + n / 32 % 128 * 33554432) (n % 32 * 128) = opcI op + f3I op * 4096 + rs1 * 32768 + rs2 * 1048576 + n / 32 % 128 * 33554432 + n % 32 * 128 := or_mid 7 12 (by decide) (by omega) (by omega) (low_of (opcI op) (f3I op * 1 + rs1 * 8 + rs2 * 256 + n / 32 % 128 * 8192) (by omega) (by omega) (by omega) (by omega)) (by omega) (by omega) (by omega) (by omega)
  have hc : clsI op = 4 := (cls_4 (by omega) (by omega)).symm
  have hfx : fixI op = 0 := fix_none (by omega)
  go_enter Tryd.func11, Tryd.ntmps11
  go_wp2_with (first | (go_at_call 21; refine (ris_any _ _ _ _ _ _ _).mono ?_; rintro e w' ⟨rfl, hg⟩; obtain ⟨c0, c1, c2, c3, c4, c5⟩ := (Six.new _ _ _ _ _ _ _ _).grown hg) | (go_at_call 22; refine (fixed_any _ _).mono ?_; rintro e w' ⟨rfl, rfl⟩) | (go_at_call 24; refine (rclass_any _ _).mono ?_; rintro e w' ⟨rfl, rfl⟩) | (go_at_call 23; refine (code_from hg _ (by omega) (by omega)).mono ?_; rintro e w' ⟨rfl, hg⟩; obtain ⟨c0, c1, c2, c3, c4, c5⟩ := (Six.new _ _ _ _ _ _ _ _).grown hg))
  all_goals
    go_ret2
    exact ⟨rfl, Grown.trans' ((Grown.refl _).alloc _ _) hg⟩
set_option linter.unusedVariables false in
set_option maxRecDepth 100000 in
set_option maxHeartbeats 2000000 in
theorem encode_R (op rd rs1 rs2 imm csr n : Int) (h0 : 35 ≤ op) (h1 : op ≤ 49) (h : isB op rd rs1 rs2 imm csr = true) (hn : IntKind.u32.wrap imm = n) (hn0 : 0 ≤ n) (hn1 : n < 4294967296) (w : World) :
    Calls Tryd.prog 11 #[.agg #[.int .i64 op, .int .i64 rd, .int .i64 rs1, .int .i64 rs2, .int .i64 imm, .int .i64 csr]] w
      fun e w' => e = .returned (.tuple #[.int .u32 (opcI op + f3I op * 4096 + rs1 * 32768 + rd * 128 + rs2 * 1048576 + f7I op * 33554432), .bool true]) ∧ Grown w w' := by
  obtain ⟨b0, b1, b2, b3, b4, b5, b6, b7⟩ := is_bounds h
  obtain ⟨k0, k1, k2, k3, k4, k5⟩ := codes_bd op
  have o0 : bits .or .u32 (opcI op) (f3I op * 4096) = opcI op + f3I op * 4096 := or_mid 12 15 (by decide) (by omega) (by omega) (low_of (opcI op) (0) (by omega) (by omega) (by omega) (by omega)) (by omega) (by omega) (by omega) (by omega)
  have o1 : bits .or .u32 (opcI op + f3I op * 4096) (rs1 * 32768) = opcI op + f3I op * 4096 + rs1 * 32768 := or_mid 15 20 (by decide) (by omega) (by omega) (low_of (opcI op + f3I op * 4096) (0) (by omega) (by omega) (by omega) (by omega)) (by omega) (by omega) (by omega) (by omega)
  have o2 : bits .or .u32 (opcI op + f3I op * 4096 + rs1 * 32768) (rd * 128) = opcI op + f3I op * 4096 + rs1 * 32768 + rd * 128 := or_mid 7 12 (by decide) (by omega) (by omega) (low_of (opcI op) (f3I op * 1 + rs1 * 8) (by omega) (by omega) (by omega) (by omega)) (by omega) (by omega) (by omega) (by omega)
  have o3 : bits .or .u32 (opcI op + f3I op * 4096 + rs1 * 32768 + rd * 128) (rs2 * 1048576) = opcI op + f3I op * 4096 + rs1 * 32768 + rd * 128 + rs2 * 1048576 := or_mid 20 25 (by decide) (by omega) (by omega) (low_of (opcI op + f3I op * 4096 + rs1 * 32768 + rd * 128) (0) (by omega) (by omega) (by omega) (by omega)) (by omega) (by omega) (by omega) (by omega)
  have o4 : bits .or .u32 (opcI op + f3I op * 4096 + rs1 * 32768 + rd * 128 + rs2 * 1048576) (f7I op * 33554432) = opcI op + f3I op * 4096 + rs1 * 32768 + rd * 128 + rs2 * 1048576 + f7I op * 33554432 := or_mid 25 32 (by decide) (by omega) (by omega) (low_of (opcI op + f3I op * 4096 + rs1 * 32768 + rd * 128 + rs2 * 1048576) (0) (by omega) (by omega) (by omega) (by omega)) (by omega) (by omega) (by omega) (by omega)
  have hc : clsI op = 6 := (cls_6 (by omega) (by omega)).symm
  have hfx : fixI op = 0 := fix_none (by omega)
  go_enter Tryd.func11, Tryd.ntmps11
  go_wp2_with (first | (go_at_call 21; refine (ris_any _ _ _ _ _ _ _).mono ?_; rintro e w' ⟨rfl, hg⟩; obtain ⟨c0, c1, c2, c3, c4, c5⟩ := (Six.new _ _ _ _ _ _ _ _).grown hg) | (go_at_call 22; refine (fixed_any _ _).mono ?_; rintro e w' ⟨rfl, rfl⟩) | (go_at_call 24; refine (rclass_any _ _).mono ?_; rintro e w' ⟨rfl, rfl⟩) | (go_at_call 23; refine (code_from hg _ (by omega) (by omega)).mono ?_; rintro e w' ⟨rfl, hg⟩; obtain ⟨c0, c1, c2, c3, c4, c5⟩ := (Six.new _ _ _ _ _ _ _ _).grown hg))
  all_goals
    go_ret2
    exact ⟨rfl, Grown.trans' ((Grown.refl _).alloc _ _) hg⟩
set_option linter.unusedVariables false in
set_option maxRecDepth 100000 in
set_option maxHeartbeats 2000000 in
theorem encode_V (op rd rs1 rs2 imm csr n : Int) (h0 : 63 ≤ op) (h1 : op ≤ 65) (h : isB op rd rs1 rs2 imm csr = true) (hn : IntKind.u32.wrap imm = n) (hn0 : 0 ≤ n) (hn1 : n < 4294967296) (w : World) :
    Calls Tryd.prog 11 #[.agg #[.int .i64 op, .int .i64 rd, .int .i64 rs1, .int .i64 rs2, .int .i64 imm, .int .i64 csr]] w
      fun e w' => e = .returned (.tuple #[.int .u32 (opcI op + f3I op * 4096 + rs1 * 32768 + rd * 128 + rs2 * 1048576 + f7I op * 33554432), .bool true]) ∧ Grown w w' := by
  obtain ⟨b0, b1, b2, b3, b4, b5, b6, b7⟩ := is_bounds h
  obtain ⟨k0, k1, k2, k3, k4, k5⟩ := codes_bd op
  have o0 : bits .or .u32 (opcI op) (f3I op * 4096) = opcI op + f3I op * 4096 := or_mid 12 15 (by decide) (by omega) (by omega) (low_of (opcI op) (0) (by omega) (by omega) (by omega) (by omega)) (by omega) (by omega) (by omega) (by omega)
  have o1 : bits .or .u32 (opcI op + f3I op * 4096) (rs1 * 32768) = opcI op + f3I op * 4096 + rs1 * 32768 := or_mid 15 20 (by decide) (by omega) (by omega) (low_of (opcI op + f3I op * 4096) (0) (by omega) (by omega) (by omega) (by omega)) (by omega) (by omega) (by omega) (by omega)
  have o2 : bits .or .u32 (opcI op + f3I op * 4096 + rs1 * 32768) (rd * 128) = opcI op + f3I op * 4096 + rs1 * 32768 + rd * 128 := or_mid 7 12 (by decide) (by omega) (by omega) (low_of (opcI op) (f3I op * 1 + rs1 * 8) (by omega) (by omega) (by omega) (by omega)) (by omega) (by omega) (by omega) (by omega)
  have o3 : bits .or .u32 (opcI op + f3I op * 4096 + rs1 * 32768 + rd * 128) (rs2 * 1048576) = opcI op + f3I op * 4096 + rs1 * 32768 + rd * 128 + rs2 * 1048576 := or_mid 20 25 (by decide) (by omega) (by omega) (low_of (opcI op + f3I op * 4096 + rs1 * 32768 + rd * 128) (0) (by omega) (by omega) (by omega) (by omega)) (by omega) (by omega) (by omega) (by omega)
  have o4 : bits .or .u32 (opcI op + f3I op * 4096 + rs1 * 32768 + rd * 128 + rs2 * 1048576) (f7I op * 33554432) = opcI op + f3I op * 4096 + rs1 * 32768 + rd * 128 + rs2 * 1048576 + f7I op * 33554432 := or_mid 25 32 (by decide) (by omega) (by omega) (low_of (opcI op + f3I op * 4096 + rs1 * 32768 + rd * 128 + rs2 * 1048576) (0) (by omega) (by omega) (by omega) (by omega)) (by omega) (by omega) (by omega) (by omega)
  have hc : clsI op = 11 := (cls_11 (by omega) (by omega)).symm
  have hfx : fixI op = 0 := fix_none (by omega)
  go_enter Tryd.func11, Tryd.ntmps11
  go_wp2_with (first | (go_at_call 21; refine (ris_any _ _ _ _ _ _ _).mono ?_; rintro e w' ⟨rfl, hg⟩; obtain ⟨c0, c1, c2, c3, c4, c5⟩ := (Six.new _ _ _ _ _ _ _ _).grown hg) | (go_at_call 22; refine (fixed_any _ _).mono ?_; rintro e w' ⟨rfl, rfl⟩) | (go_at_call 24; refine (rclass_any _ _).mono ?_; rintro e w' ⟨rfl, rfl⟩) | (go_at_call 23; refine (code_from hg _ (by omega) (by omega)).mono ?_; rintro e w' ⟨rfl, hg⟩; obtain ⟨c0, c1, c2, c3, c4, c5⟩ := (Six.new _ _ _ _ _ _ _ _).grown hg))
  all_goals
    go_ret2
    exact ⟨rfl, Grown.trans' ((Grown.refl _).alloc _ _) hg⟩
set_option linter.unusedVariables false in
set_option maxRecDepth 100000 in
set_option maxHeartbeats 2000000 in
theorem encode_Gs (op rd rs1 rs2 imm csr n : Int) (h0 : 69 ≤ op) (h1 : op ≤ 69) (h : isB op rd rs1 rs2 imm csr = true) (hn : IntKind.u32.wrap imm = n) (hn0 : 0 ≤ n) (hn1 : n < 4294967296) (w : World) :
    Calls Tryd.prog 11 #[.agg #[.int .i64 op, .int .i64 rd, .int .i64 rs1, .int .i64 rs2, .int .i64 imm, .int .i64 csr]] w
      fun e w' => e = .returned (.tuple #[.int .u32 (opcI op + f3I op * 4096 + rs1 * 32768 + rd * 128 + rs2 * 1048576 + f7I op * 33554432), .bool true]) ∧ Grown w w' := by
  obtain ⟨b0, b1, b2, b3, b4, b5, b6, b7⟩ := is_bounds h
  obtain ⟨k0, k1, k2, k3, k4, k5⟩ := codes_bd op
  have o0 : bits .or .u32 (opcI op) (f3I op * 4096) = opcI op + f3I op * 4096 := or_mid 12 15 (by decide) (by omega) (by omega) (low_of (opcI op) (0) (by omega) (by omega) (by omega) (by omega)) (by omega) (by omega) (by omega) (by omega)
  have o1 : bits .or .u32 (opcI op + f3I op * 4096) (rs1 * 32768) = opcI op + f3I op * 4096 + rs1 * 32768 := or_mid 15 20 (by decide) (by omega) (by omega) (low_of (opcI op + f3I op * 4096) (0) (by omega) (by omega) (by omega) (by omega)) (by omega) (by omega) (by omega) (by omega)
  have o2 : bits .or .u32 (opcI op + f3I op * 4096 + rs1 * 32768) (rd * 128) = opcI op + f3I op * 4096 + rs1 * 32768 + rd * 128 := or_mid 7 12 (by decide) (by omega) (by omega) (low_of (opcI op) (f3I op * 1 + rs1 * 8) (by omega) (by omega) (by omega) (by omega)) (by omega) (by omega) (by omega) (by omega)
  have o3 : bits .or .u32 (opcI op + f3I op * 4096 + rs1 * 32768 + rd * 128) (rs2 * 1048576) = opcI op + f3I op * 4096 + rs1 * 32768 + rd * 128 + rs2 * 1048576 := or_mid 20 25 (by decide) (by omega) (by omega) (low_of (opcI op + f3I op * 4096 + rs1 * 32768 + rd * 128) (0) (by omega) (by omega) (by omega) (by omega)) (by omega) (by omega) (by omega) (by omega)
  have o4 : bits .or .u32 (opcI op + f3I op * 4096 + rs1 * 32768 + rd * 128 + rs2 * 1048576) (f7I op * 33554432) = opcI op + f3I op * 4096 + rs1 * 32768 + rd * 128 + rs2 * 1048576 + f7I op * 33554432 := or_mid 25 32 (by decide) (by omega) (by omega) (low_of (opcI op + f3I op * 4096 + rs1 * 32768 + rd * 128 + rs2 * 1048576) (0) (by omega) (by omega) (by omega) (by omega)) (by omega) (by omega) (by omega) (by omega)
  have hc : clsI op = 12 := (cls_12 (by omega) (by omega)).symm
  have hfx : fixI op = 0 := fix_none (by omega)
  go_enter Tryd.func11, Tryd.ntmps11
  go_wp2_with (first | (go_at_call 21; refine (ris_any _ _ _ _ _ _ _).mono ?_; rintro e w' ⟨rfl, hg⟩; obtain ⟨c0, c1, c2, c3, c4, c5⟩ := (Six.new _ _ _ _ _ _ _ _).grown hg) | (go_at_call 22; refine (fixed_any _ _).mono ?_; rintro e w' ⟨rfl, rfl⟩) | (go_at_call 24; refine (rclass_any _ _).mono ?_; rintro e w' ⟨rfl, rfl⟩) | (go_at_call 23; refine (code_from hg _ (by omega) (by omega)).mono ?_; rintro e w' ⟨rfl, hg⟩; obtain ⟨c0, c1, c2, c3, c4, c5⟩ := (Six.new _ _ _ _ _ _ _ _).grown hg))
  all_goals
    go_ret2
    exact ⟨rfl, Grown.trans' ((Grown.refl _).alloc _ _) hg⟩
end Go.Proofs.YtdogjmimjjmmaaaDoor
