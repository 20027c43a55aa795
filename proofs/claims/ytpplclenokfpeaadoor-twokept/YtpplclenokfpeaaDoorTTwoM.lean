/-
  A translation behind its first two questions, told step by step. Plain facts: no call of the program is walked here.
-/
import Derived.Test.YtpplclenokfpeaaDoorTTwoB
namespace Go.Proofs.YtpplclenokfpeaaDoor
open Go.RowKit
section
variable {B : Nat → Int} {a : AskM} {at_ k : Int} {user v : Bool}
/-- What is left of a translation when something translates, below Space. -/
def restS (B : Nat → Int) (a : AskM) (at_ k : Int) (user v : Bool) : TrM :=
  if a.first = false then endS B a at_ at_ k 255 v false else
  if (fstS B a at_ k).ok = false then ⟨0, entNone, ⟨(fstS B a at_ k).cause, at_, (fstS B a at_ k).place, v⟩, false⟩ else
  if mayE ((fstS B a at_ k).e % 256) k user a.sum a.mxr = false then ⟨0, entNone, ⟨pageC k, at_, 0, v⟩, false⟩ else
  endS B a at_ ((fstS B a at_ k).frame * 256 + at_ % 256) k ((fstS B a at_ k).e % 256) v false
theorem tr_rest {S : StM} {level : Int} (h : ¬ ((askS S level v).first = false ∧ (askS S level v).second = false)) (hi : ¬ 65536 ≤ at_) : trS B S at_ k level v false = restS B (askS S level v) at_ k (level == 0) v := by
  unfold trS restS
  rw [if_neg h, if_neg hi]
  rfl
theorem gst_low (hB : ∀ i, i < 32768 → 0 ≤ B i ∧ B i < 256) {place : Int} (hc : (gstS B a place k false).c = 0) : (gstS B a place k false).p % 256 = place % 256 := by
  obtain ⟨u0, u1, u2, u3, u4⟩ := wk_U hB a.host place
  revert hc
  cases hs : a.second
  · rw [gst_off hs]
    split
    · intro h; exact absurd h (by decide)
    · intro _; rfl
  · rw [gst_on hs]
    split
    · intro h; rename_i h'; exact absurd h h'
    · split
      · intro h; exact absurd h (by decide)
      · intro _
        simp only
        omega
/-- One step of the first table's walk, by the second translation of its entry's place. -/
theorem stp_1 {t i : Int} (hc : (gstS B a (t * 256 + 8 * i) 1 false).c = 1) : stpS B a t i k = ⟨false, 0, gfC k, (t * 256 + 8 * i) / 4⟩ := by
  unfold stpS
  rw [if_pos hc]
theorem stp_2 {t i : Int} (hc : (gstS B a (t * 256 + 8 * i) 1 false).c = 2) : stpS B a t i k = ⟨false, 0, badC k, 0⟩ := by
  unfold stpS
  rw [if_neg (by rw [hc]; decide), if_pos (.inl hc)]
theorem stp_0 (hB : ∀ i, i < 32768 → 0 ≤ B i ∧ B i < 256) {t i : Int} (t0 : 0 ≤ t) (i0 : 0 ≤ i) (i1 : i < 16) (hc : (gstS B a (t * 256 + 8 * i) 1 false).c = 0) :
    stpS B a t i k = bif entO ((gstS B a (t * 256 + 8 * i) 1 false).p / 256) ((gstS B a (t * 256 + 8 * i) 1 false).p % 256 / 8) then ⟨true, entE B ((gstS B a (t * 256 + 8 * i) 1 false).p / 256) ((gstS B a (t * 256 + 8 * i) 1 false).p % 256 / 8), 0, 0⟩ else ⟨false, 0, badC k, 0⟩ := by
  have hl := gst_low hB (a := a) (k := 1) (place := t * 256 + 8 * i) hc
  have hb := (gst_bd hB a (t * 256 + 8 * i) 1 false (by omega)).1
  unfold stpS
  rw [if_neg (by rw [hc]; decide)]
  generalize gstS B a (t * 256 + 8 * i) 1 false = g at *
  have e1 : g.p % 256 / 8 = i := by omega
  have e2 : g.p = g.p / 256 * 256 + 8 * i := by omega
  rw [e1]
  cases ho : entO (g.p / 256) i
  · have hh := of_decide_eq_false ho
    have hz : ¬ codeI g.p 8 = 0 := by
      unfold codeI
      rw [if_neg (by omega), if_pos (by omega)]
      decide
    rw [if_pos (.inr hz)]
    rfl
  · have hz := ent_code ho
    rw [← e2] at hz
    rw [if_neg (by rw [hc, hz]; decide)]
    unfold entE
    rw [ho, cond_true, cond_true, ← e2]
theorem end_at (hB : ∀ i, i < 32768 → 0 ≤ B i ∧ B i < 256) {place b : Int} (hp : 0 ≤ place) : endS B a at_ place k b v false = if wrongI (gstS B a place k false).c = 0 then ⟨(gstS B a place k false).p, ⟨true, v, at_ / 256 % 256, a.asid, a.vmid, (gstS B a place k false).p / 256, b, gstB (gstS B a place k false), place / 256⟩, fltNone, true⟩ else ⟨0, entNone, fltW (wrongI (gstS B a place k false).c) k at_ place v, false⟩ := by
  have hcc := (gst_bd hB a place k false hp).2.2
  unfold endS gstB
  generalize gstS B a place k false = g at *
  obtain ⟨gp, gb, gc⟩ := g
  simp only at hcc ⊢
  rcases hcc with rfl | rfl | rfl <;> rfl
/-- The first step tells a fault. -/
theorem rest_s1 (h1 : a.first = true) {c p : Int} (h : stpS B a a.root (topI at_) k = ⟨false, 0, c, p⟩) : restS B a at_ k user v = ⟨0, entNone, ⟨c, at_, p, v⟩, false⟩ := by
  have hf : fstS B a at_ k = ⟨false, 0, 0, c, p⟩ := by
    unfold fstS
    rw [h, if_pos rfl]
  unfold restS
  rw [if_neg (by rw [h1]; decide), hf, if_pos rfl]
theorem rest_n1 (h1 : a.first = true) {e : Int} (h : stpS B a a.root (topI at_) k = ⟨true, e, 0, 0⟩) (hi : isE e = false ∨ (leafE e = true ∧ ¬ frI e % 16 = 0)) : restS B a at_ k user v = ⟨0, entNone, ⟨pageC k, at_, 0, v⟩, false⟩ := by
  have hf : fstS B a at_ k = ⟨false, 0, 0, pageC k, 0⟩ := by
    unfold fstS
    rw [h, if_neg (fun x => Bool.noConfusion x), if_pos hi]
  unfold restS
  rw [if_neg (by rw [h1]; decide), hf, if_pos rfl]
theorem rest_l1 (h1 : a.first = true) {e : Int} (h : stpS B a a.root (topI at_) k = ⟨true, e, 0, 0⟩) (hl : leafE e = true) (hz : frI e % 16 = 0) : restS B a at_ k user v = if mayE (e % 256) k user a.sum a.mxr = false then ⟨0, entNone, ⟨pageC k, at_, 0, v⟩, false⟩ else endS B a at_ ((frI e + lowI at_) * 256 + at_ % 256) k (e % 256) v false := by
  have hi := leaf_is hl
  have hf : fstS B a at_ k = ⟨true, e, frI e + lowI at_, 0, 0⟩ := by
    unfold fstS
    rw [h, if_neg (fun x => Bool.noConfusion x), if_neg (by rintro (x | ⟨_, x⟩); exact absurd (hi.symm.trans x) (by decide); exact x hz), if_pos hl]
  unfold restS
  rw [if_neg (by rw [h1]; decide), hf, if_neg (fun x => Bool.noConfusion x)]
theorem fst_2 {e : Int} (h : stpS B a a.root (topI at_) k = ⟨true, e, 0, 0⟩) (hi : isE e = true) (hl : leafE e = false) : fstS B a at_ k =
    if (stpS B a (frI e) (lowI at_) k).ok = false then ⟨false, 0, 0, (stpS B a (frI e) (lowI at_) k).cause, (stpS B a (frI e) (lowI at_) k).place⟩ else
    if leafE (stpS B a (frI e) (lowI at_) k).e = false then ⟨false, 0, 0, pageC k, 0⟩ else
    ⟨true, (stpS B a (frI e) (lowI at_) k).e, frI (stpS B a (frI e) (lowI at_) k).e, 0, 0⟩ := by
  unfold fstS
  rw [h, if_neg (fun x => Bool.noConfusion x), if_neg (by rintro (x | ⟨x, _⟩); exact absurd (hi.symm.trans x) (by decide); exact absurd (hl.symm.trans x) (by decide)), if_neg (by rw [hl]; decide)]
theorem rest_s2 (h1 : a.first = true) {e : Int} (h : stpS B a a.root (topI at_) k = ⟨true, e, 0, 0⟩) (hi : isE e = true) (hl : leafE e = false) {c p : Int} (h2 : stpS B a (frI e) (lowI at_) k = ⟨false, 0, c, p⟩) : restS B a at_ k user v = ⟨0, entNone, ⟨c, at_, p, v⟩, false⟩ := by
  have hf : fstS B a at_ k = ⟨false, 0, 0, c, p⟩ := by rw [fst_2 h hi hl, h2, if_pos rfl]
  unfold restS
  rw [if_neg (by rw [h1]; decide), hf, if_pos rfl]
theorem rest_n2 (h1 : a.first = true) {e : Int} (h : stpS B a a.root (topI at_) k = ⟨true, e, 0, 0⟩) (hi : isE e = true) (hl : leafE e = false) {e2 : Int} (h2 : stpS B a (frI e) (lowI at_) k = ⟨true, e2, 0, 0⟩) (hl2 : leafE e2 = false) : restS B a at_ k user v = ⟨0, entNone, ⟨pageC k, at_, 0, v⟩, false⟩ := by
  have hf : fstS B a at_ k = ⟨false, 0, 0, pageC k, 0⟩ := by rw [fst_2 h hi hl, h2, if_neg (fun x => Bool.noConfusion x), if_pos hl2]
  unfold restS
  rw [if_neg (by rw [h1]; decide), hf, if_pos rfl]
theorem rest_l2 (h1 : a.first = true) {e : Int} (h : stpS B a a.root (topI at_) k = ⟨true, e, 0, 0⟩) (hi : isE e = true) (hl : leafE e = false) {e2 : Int} (h2 : stpS B a (frI e) (lowI at_) k = ⟨true, e2, 0, 0⟩) (hl2 : leafE e2 = true) : restS B a at_ k user v = if mayE (e2 % 256) k user a.sum a.mxr = false then ⟨0, entNone, ⟨pageC k, at_, 0, v⟩, false⟩ else endS B a at_ (frI e2 * 256 + at_ % 256) k (e2 % 256) v false := by
  have hf : fstS B a at_ k = ⟨true, e2, frI e2, 0, 0⟩ := by rw [fst_2 h hi hl, h2, if_neg (fun x => Bool.noConfusion x), if_neg (by rw [hl2]; decide)]
  unfold restS
  rw [if_neg (by rw [h1]; decide), hf, if_neg (fun x => Bool.noConfusion x)]
end
/-- What an access on its way has come to, once it is at an end: what is wrong, the place, where it lies, both leaves' bits. -/
structure DoneW (B : Nat → Int) (a : AskM) (at_ k : Int) (user : Bool) (wr place lies bts host : Int) : Prop where
  hwr : wr = 0 ∨ wr = 1 ∨ wr = 2 ∨ wr = 3
  pl : U place
  li : U lies
  eq : ∀ v, restS B a at_ k user v = if wr = 0 then ⟨lies, ⟨true, v, at_ / 256 % 256, a.asid, a.vmid, lies / 256, bts, host, place / 256⟩, fltNone, true⟩ else ⟨0, entNone, fltW wr k at_ place v, false⟩
/-- Where it stands in the loop: how many pages an entry stands for. -/
def AtW (B : Nat → Int) (a : AskM) (at_ k : Int) (user : Bool) (many place bts : Int) : Prop :=
  (many = 16 ∧ a.first = true ∧ place = a.root * 256 + 8 * topI at_ ∧ 0 ≤ a.root ∧ a.root < 256) ∨
  (many = 1 ∧ a.first = true ∧ ∃ e, stpS B a a.root (topI at_) k = ⟨true, e, 0, 0⟩ ∧ isE e = true ∧ leafE e = false ∧ place = frI e * 256 + 8 * lowI at_) ∨
  (many = 0 ∧ 0 ≤ place ∧ place < 131072 ∧ ∀ v, restS B a at_ k user v = endS B a at_ place k bts v false)
end Go.Proofs.YtpplclenokfpeaaDoor
