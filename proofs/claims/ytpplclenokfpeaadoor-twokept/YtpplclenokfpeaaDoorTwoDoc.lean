/-
  What translates an access, and the second translation, as the document tells them. Plain facts: no call of the program is walked here.
-/
import Derived.Test.YtpplclenokfpeaaDoorWkMem
import Derived.Test.YtpplclenokfpeaaDoorStBase
namespace Go.Proofs.YtpplclenokfpeaaDoor
open Go.RowKit
/-- What translates an access. -/
structure AskM where
  first : Bool
  second : Bool
  sum : Bool
  mxr : Bool
  asid : Int
  vmid : Int
  root : Int
  host : Int
def askA (a : AskM) : Array Value := #[.bool a.first, .bool a.second, .bool a.sum, .bool a.mxr, .int .i64 a.asid, .int .i64 a.vmid, .int .i64 a.root, .int .i64 a.host]
def bitS (x : Int) (k : Nat) : Bool := bits .and .u64 (x / 2 ^ k) 1 == 1
/-- Of a register of the first table, and of the second one's. -/
def askV (f h : Int) (v sum mxr : Bool) : AskM :=
  ⟨f / 2 ^ 63 == 1, v && (h / 2 ^ 63 == 1), sum, mxr, bif f / 2 ^ 63 == 1 then f / 65536 % 256 else 0, bif v && (h / 2 ^ 63 == 1) then h / 65536 % 256 else 0, bif f / 2 ^ 63 == 1 then f % 256 else 0, bif v && (h / 2 ^ 63 == 1) then h % 256 else 0⟩
def askS (S : StM) (level : Int) (v : Bool) : AskM :=
  if level = 3 then ⟨false, false, false, false, 0, 0, 0, 0⟩ else
  askV (bif v then S.C 28 else S.C 15) (S.C 21) v (bif v then bitS (S.C 22) 18 else bitS (S.C 0) 18) (bif v then bitS (S.C 22) 19 || bitS (S.C 0) 19 else bitS (S.C 0) 19)
/-- An access's kind, as a leaf is asked. -/
def knd (k : Int) (exec : Bool) : Int := bif exec then 0 else k
/-- Where a place lies, the leaf's bits, 0, 1, 2. -/
structure Gst where
  p : Int
  b : Int
  c : Int
def gstS (B : Nat → Int) (a : AskM) (place k : Int) (exec : Bool) : Gst :=
  if 65536 ≤ place then ⟨0, 255, 1⟩ else
  if a.second = false then ⟨place, 255, 0⟩ else
  if ¬ (wkS B a.host place).c = 0 then ⟨0, 255, (wkS B a.host place).c⟩ else
  if mayE ((wkS B a.host place).e % 256) (knd k exec) true false false = false then ⟨0, 255, 1⟩ else
  ⟨(wkS B a.host place).f * 256 + place % 256, (wkS B a.host place).e % 256, 0⟩
theorem wk_U {B : Nat → Int} (hB : ∀ i, i < 32768 → 0 ≤ B i ∧ B i < 256) (root a : Int) : 0 ≤ (wkS B root a).e ∧ (wkS B root a).e < 65536 ∧ 0 ≤ (wkS B root a).f ∧ (wkS B root a).f < 256 ∧ ((wkS B root a).c = 0 ∨ (wkS B root a).c = 1 ∨ (wkS B root a).c = 2) := by
  have hl := low_bd a
  unfold wkS
  split
  · simp
  · split
    · simp
    · split
      · simp
      · split
        · split
          · rename_i h1 h2 h3 h4 h5
            have hi := leaf_is h4
            have hs := is_small (U_ent hB root (topI a)) hi
            have hf := fr_bd (entE B root (topI a))
            have h5' := h5
            unfold frI at h5' hf
            refine ⟨by simp only; omega, by simp only; omega, by simp only; unfold frI; omega, by simp only; unfold frI; omega, .inl rfl⟩
          · simp
        · split
          · simp
          · split
            · rename_i h1 h2 h3 h4 h5 h6
              have hi := leaf_is h6
              have hs := is_small (U_ent hB (frI (entE B root (topI a))) (lowI a)) hi
              have hf := fr_bd (entE B (frI (entE B root (topI a))) (lowI a))
              exact ⟨hs.1, hs.2, hf.1, hf.2, .inl rfl⟩
            · simp
end Go.Proofs.YtpplclenokfpeaaDoor
