/-
  What must be walked anew by an instruction, as the document's own call answers (Do of the reference): every case.
-/
import Derived.Test.YtpfblbleendpiaaDoorRefFenDo3
import Derived.Test.YtpfblbleendpiaaDoorFenMath
namespace Go.Proofs.YtpfblbleendpiaaDoor
open Go.RowKit
/-- Which register of control an instruction names, in a guest the one that stands for it. -/
def numD (S : StM) (csr : Int) : Int := bif S.v then redI csr else csr
/-- Whether all goes. -/
def allD (S : StM) (op rs1 imm csr : Int) : Bool := decide (54 ≤ op ∧ op ≤ 59) && (wrB14 op rs1 imm && ((numD S csr == 384) || ((numD S csr == 640) || (numD S csr == 1664))))
/-- What goes. -/
def doB (S : StM) (op rs1 rs2 imm csr : Int) (e : EntM) : Bool :=
  if op = 63 then sfeB S S.v (aD S op rs1) (bD S rs2) e else if op = 64 then sfeB S true (aD S op rs1) (bD S rs2) e else if op = 65 then hosB (aD S op rs1) (bD S rs2) e else e.valid && allD S op rs1 imm csr
theorem doB_63 (S : StM) (rs1 rs2 imm csr : Int) : doB S 63 rs1 rs2 imm csr = sfeB S S.v (aD S 63 rs1) (bD S rs2) := rfl
theorem doB_64 (S : StM) (rs1 rs2 imm csr : Int) : doB S 64 rs1 rs2 imm csr = sfeB S true (aD S 64 rs1) (bD S rs2) := rfl
theorem doB_65 (S : StM) (rs1 rs2 imm csr : Int) : doB S 65 rs1 rs2 imm csr = hosB (aD S 65 rs1) (bD S rs2) := rfl
theorem doB_other (S : StM) {op : Int} (rs1 rs2 imm csr : Int) (h3 : ¬ op = 63) (h4 : ¬ op = 64) (h5 : ¬ op = 65) : doB S op rs1 rs2 imm csr = fun e => e.valid && allD S op rs1 imm csr := by
  funext e
  unfold doB
  rw [if_neg h3, if_neg h4, if_neg h5]
/-- All that are valid gone. -/
theorem wipe_valid (T : Nat → EntM) (h : ∀ i, i < 16 → (T i).valid = false → T i = entNone) : ∀ i, i < 16 → wipeT (fun e => e.valid && true) T i = entNone := fun i hi => by
  unfold wipeT wipeK
  rw [decide_eq_true hi, Bool.true_and]
  show (bif (T i).valid && true then entNone else T i) = entNone
  cases hv : (T i).valid
  · exact h i hi hv
  · rfl
theorem cnt_valid (T : Nat → EntM) : cntT (fun e => e.valid && true) T = (allT T).length := by
  rw [cntT_all (fun e he => by simpa using he)]
  rw [List.filter_eq_self.2 fun e he => by
    obtain ⟨j, _, _, h3, rfl⟩ := (mem_all 16 0 _).1 he
    rw [h3]; rfl]
theorem TlAt.congr {w : World} {b : Nat} {T U : Nat → EntM} (h : TlAt w b T) (e : ∀ i, i < 16 → U i = T i) : TlAt w b U := ⟨h.lt, fun i hi => by rw [e i hi]; exact h.at_ i hi, h.free⟩
theorem none_valid (P : EntM → Bool) (T : Nat → EntM) (h : ∀ e, P e = false) : wipeT P T = T ∧ cntT P T = 0 := wipe_none fun _ _ => h _
section
variable {w : World} {b : Nat} {T : Nat → EntM} {S : StM}
theorem rdo_any (ht : TlAt w b T) (h0 : ∀ i, i < 16 → (T i).valid = false → T i = entNone) (hS : S.Ok) (op rd rs1 rs2 imm csr : Int) :
    Calls Tryd.prog 13 #[.pointer (some ⟨b, 0, none⟩), .agg (rowOf 65 (stF S)), .agg (inA op rd rs1 rs2 imm csr)] w fun r w' => r = .returned (.int .i64 (cntT (doB S op rs1 rs2 imm csr) T : Nat)) ∧ TlAt w' b (wipeT (doB S op rs1 rs2 imm csr) T) ∧ Only (fun i => i = b) w w' := by
  by_cases h3 : op = 63
  · subst h3
    rw [doB_63]
    exact rdo_fence ht hS rd rs1 rs2 imm csr
  by_cases h4 : op = 64
  · subst h4
    rw [doB_64]
    exact rdo_guest ht hS rd rs1 rs2 imm csr
  by_cases h5 : op = 65
  · subst h5
    rw [doB_65]
    exact rdo_host ht hS rd rs1 rs2 imm csr
  rw [doB_other S rs1 rs2 imm csr h3 h4 h5]
  have n3 : (op == 63) = false := beq_eq_false_iff_ne.2 h3
  have n4 : (op == 64) = false := beq_eq_false_iff_ne.2 h4
  have n5 : (op == 65) = false := beq_eq_false_iff_ne.2 h5
  cases hd : allD S op rs1 imm csr
  · obtain ⟨z1, z2⟩ := none_valid (fun e => e.valid && false) T fun e => Bool.and_false _
    rw [z1, z2]
    unfold allD at hd
    by_cases hlo : op < 54
    · exact rdo_none_lo ht hS op rd rs1 rs2 imm csr n3 n4 n5 hlo
    by_cases hhi : op ≤ 59
    · rw [decide_eq_true ⟨by omega, hhi⟩, Bool.true_and] at hd
      cases hw : wrB14 op rs1 imm
      · exact rdo_csr_no ht hS op rd rs1 rs2 imm csr n3 n4 n5 hlo hhi hw
      · rw [hw, Bool.true_and] at hd
        simp only [Bool.or_eq_false_iff] at hd
        obtain ⟨m1, m2, m3⟩ := hd
        unfold numD at m1 m2 m3
        cases hv : S.v
        · rw [hv, cond_false] at m1 m2 m3
          exact rdo_csr_other_f ht hS op rd rs1 rs2 imm csr n3 n4 n5 hlo hhi hw hv m1 m2 m3
        · rw [hv, cond_true] at m1 m2 m3
          exact rdo_csr_other_t ht hS op rd rs1 rs2 imm csr n3 n4 n5 hlo hhi hw hv _ rfl m1 m2 m3
    · exact rdo_none_hi ht hS op rd rs1 rs2 imm csr n3 n4 n5 hhi
  · have fin : Calls Tryd.prog 13 #[.pointer (some ⟨b, 0, none⟩), .agg (rowOf 65 (stF S)), .agg (inA op rd rs1 rs2 imm csr)] w fun r w' => r = .returned (.int .i64 (allT T).length) ∧ TlAt w' b noneT ∧ Only (fun i => i = b) w w' := by
      unfold allD at hd
      simp only [Bool.and_eq_true, decide_eq_true_eq] at hd
      obtain ⟨⟨hlo, hhi⟩, hw, hm⟩ := hd
      have hlo' : ¬ op < 54 := by omega
      unfold numD at hm
      cases hv : S.v
      · rw [hv, cond_false] at hm
        cases m1 : (csr == 384)
        · cases m2 : (csr == 640)
          · rw [m1, m2, Bool.false_or, Bool.false_or] at hm
            exact rdo_flush_f2 ht hS op rd rs1 rs2 imm csr n3 n4 n5 hlo' hhi hw hv m1 m2 hm
          · exact rdo_flush_f1 ht hS op rd rs1 rs2 imm csr n3 n4 n5 hlo' hhi hw hv m1 m2
        · exact rdo_flush_f0 ht hS op rd rs1 rs2 imm csr n3 n4 n5 hlo' hhi hw hv m1
      · rw [hv, cond_true] at hm
        cases m1 : (redI csr == 384)
        · cases m2 : (redI csr == 640)
          · rw [m1, m2, Bool.false_or, Bool.false_or] at hm
            exact rdo_flush_t2 ht hS op rd rs1 rs2 imm csr n3 n4 n5 hlo' hhi hw hv _ rfl m1 m2 hm
          · exact rdo_flush_t1 ht hS op rd rs1 rs2 imm csr n3 n4 n5 hlo' hhi hw hv _ rfl m1 m2
        · exact rdo_flush_t0 ht hS op rd rs1 rs2 imm csr n3 n4 n5 hlo' hhi hw hv _ rfl m1
    refine fin.mono ?_
    rintro r w' ⟨rfl, h1, h2⟩
    rw [cnt_valid]
    exact ⟨rfl, h1.congr fun i hi => wipe_valid T h0 i hi, h2⟩
end
end Go.Proofs.YtpfblbleendpiaaDoor
