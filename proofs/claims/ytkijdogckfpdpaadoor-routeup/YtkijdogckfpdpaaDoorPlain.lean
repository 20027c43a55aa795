/-
  What the calls of package word that only reckon come to (High, Sext, Zext, Bits, Set and the helpers below them): walked whole, for every argument.
-/
import Derived.Test.YtkijdogckfpdpaaDoorBase
namespace Go.Proofs.YtkijdogckfpdpaaDoor
open Go.RowKit
def clamp (x a b : Int) : Int := if b < (if x < a then a else x) then b else (if x < a then a else x)
theorem clamp_bd (x a b : Int) (h : a ≤ b) : a ≤ clamp x a b ∧ clamp x a b ≤ b := by
  unfold clamp; split <;> split <;> omega
def onesI (x : Int) : Int := IntKind.u64.wrap (IntKind.u64.wrap (2 ^ x.toNat) - 1)
def sextI (v n : Int) : Int := IntKind.u64.wrap (wrap64 (IntKind.u64.wrap (v * 2 ^ (64 - clamp n 1 64).toNat)) / 2 ^ (64 - clamp n 1 64).toNat)
def zextI (v n : Int) : Int := IntKind.u64.wrap (v * 2 ^ (64 - clamp n 1 64).toNat) / 2 ^ (64 - clamp n 1 64).toNat
def loI (lo : Int) : Int := clamp lo 0 63
def manyI (lo n : Int) : Int := clamp n 0 (64 - loI lo)
theorem lo_bd (lo : Int) : 0 ≤ loI lo ∧ loI lo ≤ 63 := clamp_bd _ _ _ (by omega)
theorem many_bd (lo n : Int) : 0 ≤ manyI lo n ∧ manyI lo n ≤ 64 - loI lo := clamp_bd _ _ _ (by have := lo_bd lo; omega)
def bitsI (v lo n : Int) : Int := bits .and .u64 (v / 2 ^ (loI lo).toNat) (onesI (manyI lo n))
def placeI (lo n : Int) : Int := IntKind.u64.wrap (onesI (manyI lo n) * 2 ^ (loI lo).toNat)
def setI (v lo n x : Int) : Int := bits .or .u64 (bits .andNot .u64 v (placeI lo n)) (bits .and .u64 (IntKind.u64.wrap (x * 2 ^ (loI lo).toNat)) (placeI lo n))
end Go.Proofs.YtkijdogckfpdpaaDoor
