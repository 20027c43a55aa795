/-
  The codes of the operations, as the document's words have them (the reference of layers 3 and 4), for every operation.
-/
import Derived.Test.YtbcmklojfmenjaaDoorRefCodeA
import Derived.Test.YtbcmklojfmenjaaDoorRefCodeB
import Derived.Test.YtbcmklojfmenjaaDoorRefCodeC
import Derived.Test.YtbcmklojfmenjaaDoorRefCodeD
namespace Go.Proofs.YtbcmklojfmenjaaDoor
open Go.RowKit
/-- Opcode, f3 and f7 of an operation, as P3.1 tells them. -/
def opcI (op : Int) : Int := ([0, 55, 23, 111, 103, 99, 99, 99, 99, 99, 99, 3, 3, 3, 3, 3, 3, 3, 35, 35, 35, 35, 19, 19, 19, 19, 19, 19, 19, 19, 19, 27, 27, 27, 27, 51, 51, 51, 51, 51, 51, 51, 51, 51, 51, 59, 59, 59, 59, 59, 0, 0, 0, 0, 115, 115, 115, 115, 115, 115, 0, 0, 0, 115, 115, 115, 115, 115, 115, 115] : List Int).getD op.toNat 0
def f3I (op : Int) : Int := ([0, 0, 0, 0, 0, 0, 1, 4, 5, 6, 7, 0, 1, 2, 3, 4, 5, 6, 0, 1, 2, 3, 0, 2, 3, 4, 6, 7, 1, 5, 5, 0, 1, 5, 5, 0, 0, 1, 2, 3, 4, 5, 5, 6, 7, 0, 0, 1, 5, 5, 0, 0, 0, 0, 1, 2, 3, 5, 6, 7, 0, 0, 0, 0, 0, 0, 4, 4, 4, 4] : List Int).getD op.toNat 0
def f7I (op : Int) : Int := ([0, 0, 0, 0, 0, 0, 0, 0, 0, 0, 0, 0, 0, 0, 0, 0, 0, 0, 0, 0, 0, 0, 0, 0, 0, 0, 0, 0, 0, 0, 32, 0, 0, 0, 32, 0, 32, 0, 0, 0, 0, 0, 32, 0, 0, 0, 32, 0, 0, 32, 0, 0, 0, 0, 0, 0, 0, 0, 0, 0, 0, 0, 0, 9, 17, 49, 52, 54, 52, 55] : List Int).getD op.toNat 0
set_option maxRecDepth 100000 in
theorem code_nat (w : World) : ∀ k : Nat, 1 ≤ k → k < 70 →
    Calls Tryd.prog 19 #[.int .i64 (k : Int)] w fun e w' => e = .returned (.tuple #[.int .u32 (opcI k), .int .u32 (f3I k), .int .u32 (f7I k)]) ∧ Grown w w'
    | 1, _, _ => code_1 w
    | 2, _, _ => code_2 w
    | 3, _, _ => code_3 w
    | 4, _, _ => code_4 w
    | 5, _, _ => code_5 w
    | 6, _, _ => code_6 w
    | 7, _, _ => code_7 w
    | 8, _, _ => code_8 w
    | 9, _, _ => code_9 w
    | 10, _, _ => code_10 w
    | 11, _, _ => code_11 w
    | 12, _, _ => code_12 w
    | 13, _, _ => code_13 w
    | 14, _, _ => code_14 w
    | 15, _, _ => code_15 w
    | 16, _, _ => code_16 w
    | 17, _, _ => code_17 w
    | 18, _, _ => code_18 w
    | 19, _, _ => code_19 w
    | 20, _, _ => code_20 w
    | 21, _, _ => code_21 w
    | 22, _, _ => code_22 w
    | 23, _, _ => code_23 w
    | 24, _, _ => code_24 w
    | 25, _, _ => code_25 w
    | 26, _, _ => code_26 w
    | 27, _, _ => code_27 w
    | 28, _, _ => code_28 w
    | 29, _, _ => code_29 w
    | 30, _, _ => code_30 w
    | 31, _, _ => code_31 w
    | 32, _, _ => code_32 w
    | 33, _, _ => code_33 w
    | 34, _, _ => code_34 w
    | 35, _, _ => code_35 w
    | 36, _, _ => code_36 w
    | 37, _, _ => code_37 w
    | 38, _, _ => code_38 w
    | 39, _, _ => code_39 w
    | 40, _, _ => code_40 w
    | 41, _, _ => code_41 w
    | 42, _, _ => code_42 w
    | 43, _, _ => code_43 w
    | 44, _, _ => code_44 w
    | 45, _, _ => code_45 w
    | 46, _, _ => code_46 w
    | 47, _, _ => code_47 w
    | 48, _, _ => code_48 w
    | 49, _, _ => code_49 w
    | 50, _, _ => code_50 w
    | 51, _, _ => code_51 w
    | 52, _, _ => code_52 w
    | 53, _, _ => code_53 w
    | 54, _, _ => code_54 w
    | 55, _, _ => code_55 w
    | 56, _, _ => code_56 w
    | 57, _, _ => code_57 w
    | 58, _, _ => code_58 w
    | 59, _, _ => code_59 w
    | 60, _, _ => code_60 w
    | 61, _, _ => code_61 w
    | 62, _, _ => code_62 w
    | 63, _, _ => code_63 w
    | 64, _, _ => code_64 w
    | 65, _, _ => code_65 w
    | 66, _, _ => code_66 w
    | 67, _, _ => code_67 w
    | 68, _, _ => code_68 w
    | 69, _, _ => code_69 w
    | 0, h, _ => absurd h (by decide)
    | n + 70, _, h => absurd h (by omega)
theorem code_any (op : Int) (h0 : 1 ≤ op) (h1 : op ≤ 69) (w : World) :
    Calls Tryd.prog 19 #[.int .i64 op] w fun e w' => e = .returned (.tuple #[.int .u32 (opcI op), .int .u32 (f3I op), .int .u32 (f7I op)]) ∧ Grown w w' := by
  have := code_nat w op.toNat (by omega) (by omega)
  rwa [show ((op.toNat : Nat) : Int) = op by omega] at this
end Go.Proofs.YtbcmklojfmenjaaDoor
