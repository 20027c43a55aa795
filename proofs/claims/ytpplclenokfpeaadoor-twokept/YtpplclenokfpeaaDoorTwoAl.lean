/-
  Whether what was kept lets an access through, as the document tells it; askings that are compared. Plain facts: no call of the program is walked here.
-/
import Derived.Test.YtpplclenokfpeaaDoorRefTwo
import Derived.Test.YtpplclenokfpeaaDoorEntAl
namespace Go.Proofs.YtpplclenokfpeaaDoor
open Go.RowKit
/-- What one step of the first table's walk comes to: the entry (ok), or the cause and the place. -/
structure Stp1 where
  ok : Bool
  e : Int
  cause : Int
  place : Int
def stpS (B : Nat → Int) (a : AskM) (frame index k : Int) : Stp1 :=
  if (gstS B a (frame * 256 + 8 * index) 1 false).c = 1 then ⟨false, 0, gfC k, (frame * 256 + 8 * index) / 4⟩ else
  if (gstS B a (frame * 256 + 8 * index) 1 false).c = 2 ∨ ¬ codeI (gstS B a (frame * 256 + 8 * index) 1 false).p 8 = 0 then ⟨false, 0, badC k, 0⟩ else
  ⟨true, rdF B (gstS B a (frame * 256 + 8 * index) 1 false).p.toNat 8, 0, 0⟩
/-- What the first table's walk comes to: the leaf and its frame (ok), or the cause and the place. -/
structure Fst1 where
  ok : Bool
  e : Int
  frame : Int
  cause : Int
  place : Int
def fstS (B : Nat → Int) (a : AskM) (at_ k : Int) : Fst1 :=
  if (stpS B a a.root (topI at_) k).ok = false then ⟨false, 0, 0, (stpS B a a.root (topI at_) k).cause, (stpS B a a.root (topI at_) k).place⟩ else
  if isE (stpS B a a.root (topI at_) k).e = false ∨ (leafE (stpS B a a.root (topI at_) k).e = true ∧ ¬ frI (stpS B a a.root (topI at_) k).e % 16 = 0) then ⟨false, 0, 0, pageC k, 0⟩ else
  if leafE (stpS B a a.root (topI at_) k).e = true then ⟨true, (stpS B a a.root (topI at_) k).e, frI (stpS B a a.root (topI at_) k).e + lowI at_, 0, 0⟩ else
  if (stpS B a (frI (stpS B a a.root (topI at_) k).e) (lowI at_) k).ok = false then ⟨false, 0, 0, (stpS B a (frI (stpS B a a.root (topI at_) k).e) (lowI at_) k).cause, (stpS B a (frI (stpS B a a.root (topI at_) k).e) (lowI at_) k).place⟩ else
  if leafE (stpS B a (frI (stpS B a a.root (topI at_) k).e) (lowI at_) k).e = false then ⟨false, 0, 0, pageC k, 0⟩ else
  ⟨true, (stpS B a (frI (stpS B a a.root (topI at_) k).e) (lowI at_) k).e, frI (stpS B a (frI (stpS B a a.root (topI at_) k).e) (lowI at_) k).e, 0, 0⟩
/-- What a translation tells. -/
structure TrM where
  p : Int
  e : EntM
  f : FltM
  ok : Bool
/-- Behind the second translation. -/
def endS (B : Nat → Int) (a : AskM) (at_ place k b : Int) (v exec : Bool) : TrM :=
  if (gstS B a place k exec).c = 1 then ⟨0, entNone, ⟨gfC k, at_, place / 4, v⟩, false⟩ else
  if ¬ (gstS B a place k exec).c = 0 then ⟨0, entNone, ⟨badC k, at_, 0, v⟩, false⟩ else
  ⟨(gstS B a place k exec).p, ⟨true, v, at_ / 256 % 256, a.asid, a.vmid, (gstS B a place k exec).p / 256, b, (gstS B a place k exec).b, place / 256⟩, fltNone, true⟩
def trS (B : Nat → Int) (S : StM) (at_ k level : Int) (v exec : Bool) : TrM :=
  if (askS S level v).first = false ∧ (askS S level v).second = false then
    ⟨at_, ⟨true, v, if at_ < 65536 then at_ / 256 else 0, (askS S level v).asid, (askS S level v).vmid, if at_ < 65536 then at_ / 256 else 0, 255, 255, if at_ < 65536 then at_ / 256 else 0⟩, fltNone, true⟩ else
  if 65536 ≤ at_ then ⟨0, entNone, if (askS S level v).first = true then ⟨pageC k, at_, 0, v⟩ else ⟨gfC k, at_, at_ / 4, v⟩, false⟩ else
  if (askS S level v).first = false then endS B (askS S level v) at_ at_ k 255 v exec else
  if (fstS B (askS S level v) at_ k).ok = false then ⟨0, entNone, ⟨(fstS B (askS S level v) at_ k).cause, at_, (fstS B (askS S level v) at_ k).place, v⟩, false⟩ else
  if mayE ((fstS B (askS S level v) at_ k).e % 256) (knd k exec) (level == 0) (askS S level v).sum (askS S level v).mxr = false then ⟨0, entNone, ⟨pageC k, at_, 0, v⟩, false⟩ else
  endS B (askS S level v) at_ ((fstS B (askS S level v) at_ k).frame * 256 + at_ % 256) k ((fstS B (askS S level v) at_ k).e % 256) v exec
end Go.Proofs.YtpplclenokfpeaaDoor
namespace Go.Proofs.YtpplclenokfpeaaDoor
open Go.RowKit
/-- An entry as a translation leaves it. -/
structure EntM.Ok (e : EntM) : Prop where
  page : 0 ≤ e.page ∧ e.page < 256
  asid : 0 ≤ e.asid ∧ e.asid < 256
  vmid : 0 ≤ e.vmid ∧ e.vmid < 256
  frame : 0 ≤ e.frame ∧ e.frame < 256
  bits : 0 ≤ e.bits ∧ e.bits < 256
  host : 0 ≤ e.host ∧ e.host < 256
  guest : 0 ≤ e.guest ∧ e.guest < 256
structure AlwM where
  f : FltM
  ok : Bool
/-- Whether an entry lets an access through. -/
def alwS (S : StM) (e : EntM) (at_ k level : Int) (v : Bool) : AlwM :=
  if ¬ e.bits = 255 ∧ mayE e.bits k (level == 0) (askS S level v).sum (askS S level v).mxr = false then ⟨⟨pageC k, at_, 0, v⟩, false⟩ else
  if ¬ e.host = 255 ∧ mayE e.host k true false false = false then ⟨⟨gfC k, at_, (e.guest * 256 + at_ % 256) / 4, v⟩, false⟩ else
  ⟨fltNone, true⟩
theorem eq_ask (a : AskM) (w : World) : (binOp .eql 46 (.agg (askA a)) (.agg (askA a))).run Tryd.prog w = Result.ok (.bool true) w := by
  unfold askA
  simp [go_sem]
theorem ask_zero' : (Tryd.prog.info? 46).map (fun i => i.zero.map (·.cells)) = some (some (askA ⟨false, false, false, false, 0, 0, 0, 0⟩)) := by kernel_rfl
theorem ask_len (a : AskM) : (askA a).size = 8 := rfl
end Go.Proofs.YtpplclenokfpeaaDoor
