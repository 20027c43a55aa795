/-
  A walk through a table, as the document tells it; entries of tables in memory; a page laid. Plain facts: no call of the program is walked here.
-/
import Derived.Test.YtpplclenokfpeaaDoorRefRead
import Derived.Test.YtpplclenokfpeaaDoorPMath
namespace Go.Proofs.YtpplclenokfpeaaDoor
open Go.RowKit
/-- Whether there is such an entry. -/
def entO (f i : Int) : Bool := decide (0 ≤ f ∧ f < 128 ∧ 0 ≤ i ∧ i < 16)
/-- An entry; 0 of none. -/
def entE (B : Nat → Int) (f i : Int) : Int := bif entO f i then rdF B (f * 256 + 8 * i).toNat 8 else 0
/-- What a walk comes to: the leaf, the frame of its place, 0, 1, 2. -/
structure Wkd where
  e : Int
  f : Int
  c : Int
def topI (at_ : Int) : Int := at_ / 4096 % 16
def lowI (at_ : Int) : Int := at_ / 256 % 16
def wkS (B : Nat → Int) (root at_ : Int) : Wkd :=
  if 65536 ≤ at_ then ⟨0, 0, 1⟩ else
  if entO root (topI at_) = false then ⟨0, 0, 2⟩ else
  if isE (entE B root (topI at_)) = false then ⟨0, 0, 1⟩ else
  if leafE (entE B root (topI at_)) = true then
    (if frI (entE B root (topI at_)) % 16 = 0 then ⟨entE B root (topI at_) + lowI at_ * 256, frI (entE B root (topI at_)) + lowI at_, 0⟩ else ⟨0, 0, 1⟩) else
  if entO (frI (entE B root (topI at_))) (lowI at_) = false then ⟨0, 0, 2⟩ else
  if leafE (entE B (frI (entE B root (topI at_))) (lowI at_)) = true then ⟨entE B (frI (entE B root (topI at_))) (lowI at_), frI (entE B (frI (entE B root (topI at_))) (lowI at_)), 0⟩ else ⟨0, 0, 1⟩
theorem U_ent {B : Nat → Int} (hB : ∀ i, i < 32768 → 0 ≤ B i ∧ B i < 256) (f i : Int) : U (entE B f i) := by
  unfold entE
  cases h : entO f i
  · rw [cond_false]; unfold U; omega
  · rw [cond_true]
    have hh := of_decide_eq_true h
    exact rd_bd 8 _ (by omega) hB
theorem top_bd (a : Int) : 0 ≤ topI a ∧ topI a < 16 := by unfold topI; omega
theorem low_bd (a : Int) : 0 ≤ lowI a ∧ lowI a < 16 := by unfold lowI; omega
theorem fr_bd (e : Int) : 0 ≤ frI e ∧ frI e < 256 := by unfold frI; omega
/-- An entry that is one has sixteen bits. -/
theorem is_small {e : Int} (he : U e) (h : isE e = true) : 0 ≤ e ∧ e < 65536 := by
  unfold isE at h
  simp only [Bool.and_eq_true, beq_iff_eq] at h
  have := he.1
  omega
theorem leaf_is {e : Int} (h : leafE e = true) : isE e = true := by
  unfold leafE at h
  rw [Bool.and_eq_true] at h
  exact h.1
/-- A great page's leaf with the place's frame in it. -/
theorem great_or {e l : Int} (he : U e) (h : isE e = true) (hf : frI e % 16 = 0) (h0 : 0 ≤ l) (h1 : l < 16) : bits .or .u64 e (l * 256) = e + l * 256 := by
  obtain ⟨e0, e1⟩ := is_small he h
  obtain ⟨E, rfl⟩ := Int.eq_ofNat_of_zero_le e0
  obtain ⟨L, rfl⟩ := Int.eq_ofNat_of_zero_le h0
  unfold frI at hf
  obtain ⟨H, G, hE⟩ : ∃ H G : Nat, E = 4096 * H + G ∧ G < 256 := ⟨E / 4096, E % 4096, by omega, by omega⟩
  have hG := hE.2
  have hb : 256 * L < 2 ^ 12 := by omega
  have c1 : (256 * L) ||| G = 256 * L + G := by
    exact (Nat.two_pow_add_eq_or_of_lt (i := 8) (b := G) (by omega) L).symm
  have c2 : (4096 * H) ||| G = 4096 * H + G := by
    exact (Nat.two_pow_add_eq_or_of_lt (i := 12) (b := G) (by omega) H).symm
  have c3 : (4096 * H) ||| (256 * L + G) = 4096 * H + (256 * L + G) := by
    exact (Nat.two_pow_add_eq_or_of_lt (i := 12) (b := 256 * L + G) (by omega) H).symm
  have e2 : ((L : Int) * 256) = ((256 * L : Nat) : Int) := by omega
  rw [e2, bits_or, BitVec.toNat_or, BitVec.ofInt_natCast, BitVec.ofInt_natCast, BitVec.toNat_ofNat, BitVec.toNat_ofNat, Nat.mod_eq_of_lt (by omega), Nat.mod_eq_of_lt (by omega), hE.1, ← c2, Nat.or_assoc, Nat.or_comm G, c1, c3]
  omega
/-- A frame of a great page, with the place's in it. -/
theorem frame_or {f l : Int} (f0 : 0 ≤ f) (f1 : f < 256) (hf : f % 16 = 0) (h0 : 0 ≤ l) (h1 : l < 16) : bits .or .i64 f l = f + l := by
  obtain ⟨F, rfl⟩ := Int.eq_ofNat_of_zero_le f0
  obtain ⟨L, rfl⟩ := Int.eq_ofNat_of_zero_le h0
  obtain ⟨H, hE⟩ : ∃ H : Nat, F = 16 * H := ⟨F / 16, by omega⟩
  have c1 : (16 * H) ||| L = 16 * H + L := by
    exact (Nat.two_pow_add_eq_or_of_lt (i := 4) (b := L) (by omega) H).symm
  have h : bits .or .i64 (F : Int) (L : Int) = IntKind.i64.wrap ((BitVec.ofInt 64 (F : Int) ||| BitVec.ofInt 64 (L : Int)).toNat : Int) := rfl
  rw [h, BitVec.toNat_or, BitVec.ofInt_natCast, BitVec.ofInt_natCast, BitVec.toNat_ofNat, BitVec.toNat_ofNat, Nat.mod_eq_of_lt (by omega), Nat.mod_eq_of_lt (by omega), hE, c1, IntKind.wrap_i64]
  omega
end Go.Proofs.YtpplclenokfpeaaDoor
