/-
  What package encode's head, fields and number answer: walked whole.
-/
import Derived.Test.YtdogjmimjjmmaaaDoorEncKind
import Derived.Test.YtdogjmimjjmmaaaDoorDecFormat
import Derived.Deep.RegionHeld3
namespace Go.Proofs.YtdogjmimjjmmaaaDoor
open Go.RowKit
def jumpE (n : Int) : Int := bits .or .u64 (bits .or .u64 (bits .or .u64 (IntKind.u64.wrap (bitsI n 1 10 * 2097152)) (IntKind.u64.wrap (bitsI n 11 1 * 1048576))) (IntKind.u64.wrap (bitsI n 12 8 * 4096))) (IntKind.u64.wrap (bitsI n 20 1 * 2147483648))
def branchE (n : Int) : Int := bits .or .u64 (bits .or .u64 (bits .or .u64 (IntKind.u64.wrap (bitsI n 1 4 * 256)) (IntKind.u64.wrap (bitsI n 5 6 * 33554432))) (IntKind.u64.wrap (bitsI n 11 1 * 128))) (IntKind.u64.wrap (bitsI n 12 1 * 2147483648))
def headE (op : Int) : Int := bits .or .u64 (bits .or .u64 (IntKind.u64.wrap (opcE op)) (IntKind.u64.wrap (IntKind.u64.wrap (f3E op) * 4096))) (IntKind.u64.wrap (IntKind.u64.wrap (topE op) * 1048576))
def fieldsE (rd rs1 rs2 csr : Int) : Int := bits .or .u64 (bits .or .u64 (bits .or .u64 (IntKind.u64.wrap (IntKind.u64.wrap (rd) * 128)) (IntKind.u64.wrap (IntKind.u64.wrap (rs1) * 32768))) (IntKind.u64.wrap (IntKind.u64.wrap (rs2) * 1048576))) (IntKind.u64.wrap (IntKind.u64.wrap (csr) * 1048576))
def numE (op n : Int) : Int := if fmtI op = 85 then IntKind.u64.wrap (bitsI n 12 20 * 4096) else if fmtI op = 74 then jumpE n else if fmtI op = 66 then branchE n else if fmtI op = 83 then bits .or .u64 (IntKind.u64.wrap (bitsI n 0 5 * 128)) (IntKind.u64.wrap (bitsI n 5 7 * 33554432)) else if clsI op = 9 then IntKind.u64.wrap (n * 32768) else IntKind.u64.wrap (bitsI n 0 12 * 1048576)
theorem ejump_any (n : Int) (w : World) :
    Calls Tryd.prog 41 #[.int .u64 n] w fun e w' => e = .returned (.int .u64 (jumpE n)) ∧ w' = w := by
  go_enter Tryd.func41, Tryd.ntmps41
  go_wp2_with (go_at_call 40; refine (bits_any _ _ _ _).mono ?_; rintro e w' ⟨rfl, rfl⟩)
  go_ret
  exact ⟨rfl, rfl⟩
theorem ebranch_any (n : Int) (w : World) :
    Calls Tryd.prog 42 #[.int .u64 n] w fun e w' => e = .returned (.int .u64 (branchE n)) ∧ w' = w := by
  go_enter Tryd.func42, Tryd.ntmps42
  go_wp2_with (go_at_call 40; refine (bits_any _ _ _ _).mono ?_; rintro e w' ⟨rfl, rfl⟩)
  go_ret
  exact ⟨rfl, rfl⟩
theorem efields_any (op rd rs1 rs2 imm csr : Int) (w : World) :
    Calls Tryd.prog 19 #[.agg #[.int .i64 op, .int .i64 rd, .int .i64 rs1, .int .i64 rs2, .int .i64 imm, .int .i64 csr]] w fun e w' => e = .returned (.int .u64 (fieldsE rd rs1 rs2 csr)) ∧ Grown w w' := by
  go_enter Tryd.func19, Tryd.ntmps19
  go_wp2
  go_ret
  exact ⟨rfl, (Grown.refl _).alloc _ _⟩
set_option maxRecDepth 100000 in
set_option maxHeartbeats 2000000 in
theorem enumber_any (op rd rs1 rs2 imm csr : Int) (w : World) (hT : TabI w) :
    Calls Tryd.prog 20 #[.agg #[.int .i64 op, .int .i64 rd, .int .i64 rs1, .int .i64 rs2, .int .i64 imm, .int .i64 csr]] w fun e w' => e = .returned (.int .u64 (numE op (IntKind.u64.wrap imm))) ∧ Grown w w' := by
  have hT1 := hT.grown ((Grown.refl w).alloc #[.int .i64 op, .int .i64 rd, .int .i64 rs1, .int .i64 rs2, .int .i64 imm, .int .i64 csr] 23)
  have e1 : fmtI op = 85 → numE op (IntKind.u64.wrap imm) = _ := fun h => by unfold numE; rw [if_pos h]
  have e2 : ¬ fmtI op = 85 → fmtI op = 74 → numE op (IntKind.u64.wrap imm) = _ := fun a h => by unfold numE; rw [if_neg a, if_pos h]
  have e3 : ¬ fmtI op = 85 → ¬ fmtI op = 74 → fmtI op = 66 → numE op (IntKind.u64.wrap imm) = _ := fun a b h => by unfold numE; rw [if_neg a, if_neg b, if_pos h]
  have e4 : ¬ fmtI op = 85 → ¬ fmtI op = 74 → ¬ fmtI op = 66 → fmtI op = 83 → numE op (IntKind.u64.wrap imm) = _ := fun a b c h => by unfold numE; rw [if_neg a, if_neg b, if_neg c, if_pos h]
  have e5 : ¬ fmtI op = 85 → ¬ fmtI op = 74 → ¬ fmtI op = 66 → ¬ fmtI op = 83 → clsI op = 9 → numE op (IntKind.u64.wrap imm) = _ := fun a b c d h => by unfold numE; rw [if_neg a, if_neg b, if_neg c, if_neg d, if_pos h]
  have e6 : ¬ fmtI op = 85 → ¬ fmtI op = 74 → ¬ fmtI op = 66 → ¬ fmtI op = 83 → ¬ clsI op = 9 → numE op (IntKind.u64.wrap imm) = _ := fun a b c d h => by unfold numE; rw [if_neg a, if_neg b, if_neg c, if_neg d, if_neg h]
  go_enter Tryd.func20, Tryd.ntmps20
  go_wp2_with (first | (go_at_call 39; refine (format_any _ _ hT1).mono ?_; rintro e w1 ⟨rfl, hg1⟩; obtain ⟨c0, c1, c2, c3, c4, c5⟩ := (Six.new _ _ _ _ _ _ _ _).grown hg1) | (go_at_call 43; refine (class_in _ _ (hT1.grown hg1)).mono ?_; rintro e w2 ⟨rfl, hg2⟩) | (go_at_call 40; refine (bits_any _ _ _ _).mono ?_; rintro e w' ⟨rfl, rfl⟩) | (go_at_call 41; refine (ejump_any _ _).mono ?_; rintro e w' ⟨rfl, rfl⟩) | (go_at_call 42; refine (ebranch_any _ _).mono ?_; rintro e w' ⟨rfl, rfl⟩))
  all_goals
    go_ret
    simp only [beq_iff_eq, beq_eq_false_iff_ne, ne_eq] at *
    first
      | exact ⟨ret_int (e1 (by assumption)).symm, Grown.trans' ((Grown.refl _).alloc _ _) hg1⟩
      | exact ⟨ret_int (e2 (by assumption) (by assumption)).symm, Grown.trans' ((Grown.refl _).alloc _ _) hg1⟩
      | exact ⟨ret_int (e3 (by assumption) (by assumption) (by assumption)).symm, Grown.trans' ((Grown.refl _).alloc _ _) hg1⟩
      | exact ⟨ret_int (e4 (by assumption) (by assumption) (by assumption) (by assumption)).symm, Grown.trans' ((Grown.refl _).alloc _ _) hg1⟩
      | exact ⟨ret_int (e5 (by assumption) (by assumption) (by assumption) (by assumption) (by assumption)).symm, Grown.trans' ((Grown.refl _).alloc _ _) (Grown.trans' hg1 hg2)⟩
      | exact ⟨ret_int (e6 (by assumption) (by assumption) (by assumption) (by assumption) (by assumption)).symm, Grown.trans' ((Grown.refl _).alloc _ _) (Grown.trans' hg1 hg2)⟩
structure GK (a b : World) : Prop where
  g : Grown a b
set_option maxRecDepth 100000 in
set_option maxHeartbeats 4000000 in
theorem ehead_any (op : Int) (h0 : 1 ≤ op) (h1 : op ≤ 69) (w : World) (hK : TabK w) (hF : TabF w) (hO : TabT w) :
    Calls Tryd.prog 18 #[.int .i64 op] w fun e w' => e = .returned (.int .u64 (headE op)) ∧ Grown w w' := by
  obtain ⟨n, rfl⟩ := Int.eq_ofNat_of_zero_le (by omega : 0 ≤ op)
  have hn0 : (0 : Int) ≤ (n : Int) := by omega
  have hn1 : (n : Int) < 70 := by omega
  have hf : ∀ (a b c d : Value) (w : World), (Instr.field 55 (.agg #[a, b, c, d]) 2).run Tryd.prog w = .ok c w := fun _ _ _ _ _ => by kernel_rfl
  have hq : GK w w.drew := ⟨Grown.refl w⟩
  have cf : ∀ {w' : World}, GK w w' → w'.cell? ⟨0, n, none⟩ = some (.int .u8 (f3E (n : Int))) := fun q => (hF.grown q.g).cell n (by omega)
  have ct : ∀ {w' : World}, GK w w' → w'.cell? ⟨1, n, none⟩ = some (.int .u16 (topE (n : Int))) := fun q => (hO.grown q.g).cell n (by omega)
  go_enter Tryd.func18, Tryd.ntmps18
  go_wp2_with fail
  go_region_held3 (fun w' => GK w w' ∧ w'.cell? ⟨0, n, none⟩ = some (.int .u8 (f3E (n : Int))) ∧ w'.cell? ⟨1, n, none⟩ = some (.int .u16 (topE (n : Int)))) (exact ⟨hq, cf hq, ct hq⟩) (first | (go_at_call 27; refine (kind_any _ h0 h1 _ (hK.grown (GK.g (by assumption)))).mono ?_; rintro e w' ⟨rfl, hq1⟩; replace hq : GK w w' := ⟨Grown.trans' (GK.g (by assumption)) hq1⟩))
  go_wp2_with fail
  go_ret
  exact ⟨rfl, hq.g⟩
end Go.Proofs.YtdogjmimjjmmaaaDoor
