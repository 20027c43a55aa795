/-
  What the document's Do, Taken, Csr and Extend answer (the reference of layer 5): walked whole, for every argument.
-/
import Derived.Test.YtbeehnfmhclbmabDoorRefPlain
import Derived.Lib.EndianBits
namespace Go.Proofs.YtbeehnfmhclbmabDoor
open Go.RowKit
def yesI (b : Bool) : Int := cond b 1 0
/-- What comes of an operation, as P5.1 tells it. -/
def doI (op a b : Int) : Int := if op = 22 ∨ op = 35 then IntKind.u64.wrap (a + b) else if op = 36 then IntKind.u64.wrap (a - b) else if op = 23 ∨ op = 38 then yesI (decide (wrap64 a < wrap64 b)) else if op = 24 ∨ op = 39 then yesI (decide (a < b)) else if op = 25 ∨ op = 40 then bits .xor .u64 a b else if op = 26 ∨ op = 43 then bits .or .u64 a b else if op = 27 ∨ op = 44 then bits .and .u64 a b else if op = 28 ∨ op = 37 then IntKind.u64.wrap (a * 2 ^ (b % 64).toNat) else if op = 29 ∨ op = 41 then a / 2 ^ (b % 64).toNat else if op = 30 ∨ op = 42 then IntKind.u64.wrap (wrap64 a / 2 ^ (b % 64).toNat) else if op = 31 ∨ op = 45 then sextI (IntKind.u64.wrap (a + b)) 32 else if op = 46 then sextI (IntKind.u64.wrap (a - b)) 32 else if op = 32 ∨ op = 47 then sextI (IntKind.u64.wrap (a * 2 ^ (b % 32).toNat)) 32 else if op = 33 ∨ op = 48 then sextI (a % 4294967296 / 2 ^ (b % 32).toNat) 32 else if op = 34 ∨ op = 49 then IntKind.u64.wrap (wrap64 (sextI a 32) / 2 ^ (b % 32).toNat) else 0
def takenB (op a b : Int) : Bool := if op = 5 then a == b else if op = 6 then a != b else if op = 7 then decide (wrap64 a < wrap64 b) else if op = 8 then !decide (wrap64 a < wrap64 b) else if op = 9 then decide (a < b) else if op = 10 then decide (b ≤ a) else false
def csrI (op o v : Int) : Int := if op = 54 ∨ op = 57 then v else if op = 55 ∨ op = 58 then bits .or .u64 o v else if op = 56 ∨ op = 59 then bits .andNot .u64 o v else o
def extI (op v : Int) : Int := if op = 11 then sextI v 8 else if op = 12 then sextI v 16 else if op = 13 ∨ op = 66 then sextI v 32 else if op = 14 ∨ op = 67 then v else if op = 15 then v % 256 else if op = 16 then v % 65536 else if op = 17 ∨ op = 68 then v % 4294967296 else 0
theorem ret_boo {a b : Bool} (h : a = b) : Ending.returned (.bool a) = .returned (.bool b) := by rw [h]
end Go.Proofs.YtbeehnfmhclbmabDoor
