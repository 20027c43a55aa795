/-
  Who may, as the document tells it: levels, registers of control, instructions: 0 where it may, else the cause. Plain facts: no call of the program is walked here.
-/
import Derived.Test.YthmanpfooegbcaaDoorRefCsr4
import Derived.Test.YthmanpfooegbcaaDoorRefIs
namespace Go.Proofs.YthmanpfooegbcaaDoor
open Go.RowKit
/-- The level: 0, 1, 3; of a guest 4, 5. -/
def lvlI (S : StM) : Int := if S.lvl = 0 ∨ S.lvl = 1 then (bif S.v then 4 + S.lvl else S.lvl) else 3
def bitB (x : Int) (k : Nat) : Bool := bits .and .u64 (x / 2 ^ k) 1 == 1
/-- Who a number asks for. -/
def whoI (n : Int) : Int := bits .and .i64 (n / 256) 3
/-- Of a register of control. -/
def csrC (S : StM) (n : Int) (w : Bool) : Int :=
  bif !okC n || (w && decide (3072 ≤ n)) then 2 else
  bif decide (4 ≤ lvlI S) && (whoI n == 3) then 2 else
  bif decide (4 ≤ lvlI S) && ((n == 3074) || ((whoI n == 2) || (!(lvlI S == 5) || ((n == 384) && bitB (S.C 16) 20)))) then 22 else
  bif decide (4 ≤ lvlI S) then 0 else
  bif n == 3074 then (bif decide (1 ≤ lvlI S) then 0 else 2) else
  bif whoI n == 3 then (bif lvlI S == 3 then 0 else 2) else
  bif (decide (0 < whoI n) && decide (lvlI S < 1)) || ((n == 384) && ((lvlI S == 1) && bitB (S.C 0) 20)) then 2 else 0
/-- Whether an instruction of class 9 may write. -/
def wrB (op rs1 imm : Int) : Bool := (op == 54) || ((op == 57) || ((rs1 != 0) || (imm != 0)))
/-- Of Sret and SfenceVma, by a bit. -/
def kepC (S : StM) (k : Nat) : Int :=
  bif (lvlI S == 0) || ((lvlI S == 1) && bitB (S.C 0) k) then 2 else
  bif (lvlI S == 4) || ((lvlI S == 5) && bitB (S.C 16) k) then 22 else 0
def wfiC (S : StM) : Int :=
  bif (lvlI S == 0) || (!(lvlI S == 3) && bitB (S.C 0) 21) then 2 else
  bif (lvlI S == 4) || ((lvlI S == 5) && bitB (S.C 16) 21) then 22 else 0
def hypC (S : StM) (op : Int) : Int :=
  bif decide (4 ≤ lvlI S) then 22 else
  bif ((lvlI S == 0) && ((clsI op == 11) || !bitB (S.C 16) 9)) || ((op == 65) && ((lvlI S == 1) && bitB (S.C 0) 20)) then 2 else 0
/-- Of an instruction. -/
def insC (S : StM) (op rd rs1 rs2 imm csr : Int) : Int :=
  bif !isB op rd rs1 rs2 imm csr then 2 else
  bif clsI op == 9 then csrC S csr (wrB op rs1 imm) else
  bif op == 60 then (bif lvlI S == 3 then 0 else 2) else
  bif op == 61 then kepC S 22 else
  bif op == 63 then kepC S 20 else
  bif op == 62 then wfiC S else
  bif (clsI op == 11) || (clsI op == 12) then hypC S op else 0
/-- A state that a machine can have, as far as who may goes. -/
structure StM.Cl (S : StM) : Prop where
  ok : S.Ok
  l : S.lvl = 0 ∨ S.lvl = 1 ∨ S.lvl = 3
  m : S.lvl = 3 → S.v = false
theorem lvl_ways (S : StM) : lvlI S = 0 ∨ lvlI S = 1 ∨ lvlI S = 3 ∨ lvlI S = 4 ∨ lvlI S = 5 := by
  unfold lvlI
  split
  · rename_i h
    cases S.v <;> rcases h with h | h <;> rw [h] <;> decide
  · exact .inr (.inr (.inl rfl))
theorem who_ways (n : Int) : whoI n = 0 ∨ whoI n = 1 ∨ whoI n = 2 ∨ whoI n = 3 := by
  have hle : (BitVec.ofInt 64 (n / 256) &&& BitVec.ofInt 64 3).toNat ≤ 3 := by
    rw [BitVec.toNat_and]
    exact Nat.and_le_right
  have e : whoI n = ((BitVec.ofInt 64 (n / 256) &&& BitVec.ofInt 64 3).toNat : Int) := by
    show IntKind.i64.wrap (((BitVec.ofInt 64 (n / 256) &&& BitVec.ofInt 64 3).toNat : Nat) : Int) = _
    rw [IntKind.wrap_i64]; omega
  rw [e]
  omega
end Go.Proofs.YthmanpfooegbcaaDoor
