/-
  Entries that are kept, and faults, as values. Plain facts: no call of the program is walked here.
-/
import Derived.Test.YtpfblbleendpiaaDoorMemBase
namespace Go.Proofs.YtpfblbleendpiaaDoor
open Go.RowKit
/-- An entry that is kept. -/
structure EntM where
  valid : Bool
  v : Bool
  page : Int
  asid : Int
  vmid : Int
  frame : Int
  bits : Int
  host : Int
  guest : Int
def entNone : EntM := ⟨false, false, 0, 0, 0, 0, 0, 0, 0⟩
def entA (e : EntM) : List Value := [.bool e.valid, .bool e.v, .int .i64 e.page, .int .i64 e.asid, .int .i64 e.vmid, .int .i64 e.frame, .int .i64 e.bits, .int .i64 e.host, .int .i64 e.guest]
structure FltM where
  cause : Int
  value : Int
  place : Int
  gva : Bool
def fltNone : FltM := ⟨0, 0, 0, false⟩
def fltA (f : FltM) : List Value := [.int .u64 f.cause, .int .u64 f.value, .int .u64 f.place, .bool f.gva]
end Go.Proofs.YtpfblbleendpiaaDoor
