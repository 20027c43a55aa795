/-
  What the document's Digits answers (the reference of layers 3 and 4): walked, for every number with at most twenty digits.
-/
import Derived.Test.YtdogjmimjjmmaaaDoorRefName
namespace Go.Proofs.YtdogjmimjjmmaaaDoor
open Go.RowKit
/-- The digits of a number, the greatest first (f: more than it has). -/
def dgF : Nat → Nat → List UInt8
  | 0, _ => []
  | f + 1, n => if n < 10 then [UInt8.ofNat (48 + n)] else dgF f (n / 10) ++ [UInt8.ofNat (48 + n % 10)]
def dgI (n : Int) : List UInt8 := if n < 0 then 45 :: dgF 20 (-n).toNat else dgF 20 n.toNat
def valF (l : List UInt8) : Nat := l.foldl (fun a c => a * 10 + (c.toNat - 48)) 0
theorem dig_nat {d : Nat} (h : d < 10) : (UInt8.ofNat (48 + d)).toNat = 48 + d := by
  rw [UInt8.toNat_ofNat']
  omega
theorem val_dg : ∀ (f n : Nat), n < 10 ^ f → valF (dgF f n) = n
  | 0, n, h => by
    have : n = 0 := by simpa using h
    simp [dgF, valF, this]
  | f + 1, n, h => by
    unfold dgF
    by_cases hn : n < 10
    · rw [if_pos hn]
      simp only [valF, List.foldl_cons, List.foldl_nil, dig_nat hn]
      omega
    · rw [if_neg hn]
      have ih := val_dg f (n / 10) (by rw [Nat.pow_succ] at h; omega)
      unfold valF at ih ⊢
      rw [List.foldl_append, ih]
      simp only [List.foldl_cons, List.foldl_nil, dig_nat (show n % 10 < 10 by omega)]
      omega
theorem dg_digits : ∀ (f n : Nat) (c : UInt8), c ∈ dgF f n → 48 ≤ c.toNat ∧ c.toNat ≤ 57
  | 0, n, c, h => by simp [dgF] at h
  | f + 1, n, c, h => by
    unfold dgF at h
    by_cases hn : n < 10
    · rw [if_pos hn] at h
      have : c = UInt8.ofNat (48 + n) := by simpa using h
      rw [this, dig_nat hn]
      omega
    · rw [if_neg hn] at h
      rcases List.mem_append.1 h with h | h
      · exact dg_digits f _ c h
      · have : c = UInt8.ofNat (48 + n % 10) := by simpa using h
        rw [this, dig_nat (by omega)]
        omega
theorem dgI_signs {n : Int} {c : UInt8} (h : c ∈ dgI n) : c.toNat = 45 ∨ 48 ≤ c.toNat ∧ c.toNat ≤ 57 := by
  unfold dgI at h
  split at h
  · rcases List.mem_cons.1 h with h | h
    · left; rw [h]; rfl
    · right; exact dg_digits _ _ _ h
  · right; exact dg_digits _ _ _ h
theorem dgI_inj {a b : Int} (ha : -100000000000000000000 < a ∧ a < 100000000000000000000) (hb : -100000000000000000000 < b ∧ b < 100000000000000000000) (h : dgI a = dgI b) : a = b := by
  have no45 : ∀ n m : Nat, 45 :: dgF 20 n ≠ dgF 20 m := fun n m e => by
    have := dg_digits 20 m 45 (by rw [← e]; exact List.mem_cons_self ..)
    have h45 : (45 : UInt8).toNat = 45 := rfl
    omega
  unfold dgI at h
  by_cases h1 : a < 0 <;> by_cases h2 : b < 0
  · rw [if_pos h1, if_pos h2] at h
    have e := congrArg valF (List.cons.inj h).2
    rw [val_dg 20 _ (by omega), val_dg 20 _ (by omega)] at e
    omega
  · rw [if_pos h1, if_neg h2] at h
    exact absurd h (no45 _ _)
  · rw [if_neg h1, if_pos h2] at h
    exact absurd h.symm (no45 _ _)
  · rw [if_neg h1, if_neg h2] at h
    have e := congrArg valF h
    rw [val_dg 20 _ (by omega), val_dg 20 _ (by omega)] at e
    omega
def partR (has : Bool) (n : Int) : List UInt8 := cond has (44 :: 120 :: dgI n) []
def partN (has : Bool) (n : Int) : List UInt8 := cond has (44 :: dgI n) []
/-- The parts, a comma ahead of each. -/
def tailL (op rd rs1 rs2 imm csr : Int) : List UInt8 :=
  partR (hasRd op) rd ++ (partN (hasCsr op) csr ++ (partR (hasRs1 op) rs1 ++ (partR (hasRs2 op) rs2 ++ partN (hasNum op) imm)))
def nameL (op : Int) : List UInt8 := (nameS op).data.toList
def txtL (op rd rs1 rs2 imm csr : Int) : List UInt8 :=
  if tailL op rd rs1 rs2 imm csr = [] then nameL op else nameL op ++ 32 :: (tailL op rd rs1 rs2 imm csr).tail
/-- Nothing, or something behind a comma. -/
def comma (l : List UInt8) : Prop := l = [] ∨ ∃ r, l = 44 :: r
theorem comma_app {a b : List UInt8} (ha : comma a) (hb : comma b) : comma (a ++ b) := by
  rcases ha with rfl | ⟨r, rfl⟩
  · exact hb
  · exact .inr ⟨r ++ b, rfl⟩
theorem comma_R (h : Bool) (n : Int) : comma (partR h n) := by cases h; exact .inl rfl; exact .inr ⟨_, rfl⟩
theorem comma_N (h : Bool) (n : Int) : comma (partN h n) := by cases h; exact .inl rfl; exact .inr ⟨_, rfl⟩
theorem peel : ∀ {p q r s : List UInt8}, (∀ c ∈ p, c ≠ 44) → (∀ c ∈ q, c ≠ 44) → comma r → comma s → p ++ r = q ++ s → p = q ∧ r = s
  | [], [], r, s, _, _, _, _, h => ⟨rfl, h⟩
  | [], b :: q, r, s, _, hq, hr, _, h => by
    rcases hr with rfl | ⟨x, rfl⟩
    · simp at h
    · have := (List.cons.inj h).1
      exact absurd this.symm (hq b (List.mem_cons_self ..))
  | a :: p, [], r, s, hp, _, _, hs, h => by
    rcases hs with rfl | ⟨x, rfl⟩
    · simp at h
    · have := (List.cons.inj h).1
      exact absurd this (hp a (List.mem_cons_self ..))
  | a :: p, b :: q, r, s, hp, hq, hr, hs, h => by
    obtain ⟨h1, h2⟩ := List.cons.inj h
    obtain ⟨e1, e2⟩ := peel (fun c hc => hp c (List.mem_cons_of_mem _ hc)) (fun c hc => hq c (List.mem_cons_of_mem _ hc)) hr hs h2
    exact ⟨by rw [h1, e1], e2⟩
theorem dg_no44 (n : Int) : ∀ c ∈ dgI n, c ≠ 44 := fun c hc e => by
  have := dgI_signs hc
  rw [e] at this
  have h44 : (44 : UInt8).toNat = 44 := rfl
  omega
theorem peel_R {h : Bool} {a b : Int} {r s : List UInt8} (hr : comma r) (hs : comma s) (e : partR h a ++ r = partR h b ++ s) : (h = true → dgI a = dgI b) ∧ r = s := by
  cases h
  · exact ⟨fun h => (by cases h), e⟩
  · have e' := (List.cons.inj (List.cons.inj e).2).2
    obtain ⟨e1, e2⟩ := peel (dg_no44 a) (dg_no44 b) hr hs e'
    exact ⟨fun _ => e1, e2⟩
theorem peel_N {h : Bool} {a b : Int} {r s : List UInt8} (hr : comma r) (hs : comma s) (e : partN h a ++ r = partN h b ++ s) : (h = true → dgI a = dgI b) ∧ r = s := by
  cases h
  · exact ⟨fun h => (by cases h), e⟩
  · obtain ⟨e1, e2⟩ := peel (dg_no44 a) (dg_no44 b) hr hs (List.cons.inj e).2
    exact ⟨fun _ => e1, e2⟩
theorem tail_comma (op rd rs1 rs2 imm csr : Int) : comma (tailL op rd rs1 rs2 imm csr) :=
  comma_app (comma_R _ _) (comma_app (comma_N _ _) (comma_app (comma_R _ _) (comma_app (comma_R _ _) (comma_N _ _))))
theorem name_no32 (op : Int) : ∀ c ∈ nameL op, c ≠ 32 ∧ c ≠ 44 := by
  have h := op_cases (p := fun op => (nameL op).all (fun c => c != 32 && c != 44) = true) (by decide +kernel) (fun op h => by unfold nameL; rw [name_out h]; rfl) op
  intro c hc
  have := List.all_eq_true.1 h c hc
  simpa using this
theorem split32 : ∀ {p q r s : List UInt8}, (∀ c ∈ p, c ≠ 32) → (∀ c ∈ q, c ≠ 32) → p ++ 32 :: r = q ++ 32 :: s → p = q ∧ r = s
  | [], [], r, s, _, _, h => ⟨rfl, (List.cons.inj h).2⟩
  | [], b :: q, r, s, _, hq, h => absurd (List.cons.inj h).1.symm (hq b (List.mem_cons_self ..))
  | a :: p, [], r, s, hp, _, h => absurd (List.cons.inj h).1 (hp a (List.mem_cons_self ..))
  | a :: p, b :: q, r, s, hp, hq, h => by
    obtain ⟨h1, h2⟩ := List.cons.inj h
    obtain ⟨e1, e2⟩ := split32 (fun c hc => hp c (List.mem_cons_of_mem _ hc)) (fun c hc => hq c (List.mem_cons_of_mem _ hc)) h2
    exact ⟨by rw [h1, e1], e2⟩
theorem name_inj : ∀ a b : Fin 70, nameL a.val = nameL b.val → a.val = b.val := by decide +kernel
end Go.Proofs.YtdogjmimjjmmaaaDoor
namespace Go.Proofs.YtdogjmimjjmmaaaDoor
open Go.RowKit
theorem reg_facts {r : Int} {b : Bool} (h : regB r b = true) : (0 ≤ r ∧ r < 32) ∧ (b = false → r = 0) := by
  unfold regB at h
  cases b
  · have : r = 0 := by simpa using h
    exact ⟨by omega, fun _ => this⟩
  · refine ⟨?_, fun h => by cases h⟩
    simp at h
    omega
theorem csr_facts {r : Int} {b : Bool} (h : csrB r b = true) : (0 ≤ r ∧ r < 4096) ∧ (b = false → r = 0) := by
  unfold csrB at h
  cases b
  · have : r = 0 := by simpa using h
    exact ⟨by omega, fun _ => this⟩
  · refine ⟨?_, fun h => by cases h⟩
    simp at h
    omega
theorem within_bd {n lo hi st : Int} (h : withinB n lo hi st = true) : lo ≤ n ∧ n ≤ hi := by
  unfold withinB at h
  simp only [Bool.and_eq_true, decide_eq_true_eq] at h
  exact h.1
theorem imm_facts {op imm : Int} (h : immB op imm = true) : (-2147483648 ≤ imm ∧ imm ≤ 2147483647) ∧ (hasNum op = false → imm = 0) := by
  unfold immB at h
  cases hn : hasNum op
  · rw [hn] at h
    have : imm = 0 := by simpa using h
    exact ⟨by omega, fun _ => this⟩
  · rw [hn] at h
    refine ⟨?_, fun h => by cases h⟩
    simp only [if_true] at h
    unfold numB at h
    repeat (first | (split at h; · have := within_bd h; omega) | (have := within_bd h; omega))
theorem tail_nil_or {op rd rs1 rs2 imm csr : Int} : tailL op rd rs1 rs2 imm csr = [] ∨ ∃ r, tailL op rd rs1 rs2 imm csr = 44 :: r := tail_comma op rd rs1 rs2 imm csr
theorem txt_split {op rd rs1 rs2 imm csr op' rd' rs1' rs2' imm' csr' : Int} (h : txtL op rd rs1 rs2 imm csr = txtL op' rd' rs1' rs2' imm' csr') :
    nameL op = nameL op' ∧ tailL op rd rs1 rs2 imm csr = tailL op' rd' rs1' rs2' imm' csr' := by
  unfold txtL at h
  rcases tail_nil_or (op := op) (rd := rd) (rs1 := rs1) (rs2 := rs2) (imm := imm) (csr := csr) with e | ⟨r, e⟩ <;> rcases tail_nil_or (op := op') (rd := rd') (rs1 := rs1') (rs2 := rs2') (imm := imm') (csr := csr') with e' | ⟨r', e'⟩
  · rw [if_pos e, if_pos e'] at h
    exact ⟨h, by rw [e, e']⟩
  · rw [if_pos e, if_neg (by rw [e']; simp)] at h
    have : (32 : UInt8) ∈ nameL op := by rw [h]; simp
    exact absurd rfl (name_no32 op 32 this).1
  · rw [if_neg (by rw [e]; simp), if_pos e'] at h
    have : (32 : UInt8) ∈ nameL op' := by rw [← h]; simp
    exact absurd rfl (name_no32 op' 32 this).1
  · rw [if_neg (by rw [e]; simp), if_neg (by rw [e']; simp), e, e'] at h
    obtain ⟨e1, e2⟩ := split32 (fun c hc => (name_no32 op c hc).1) (fun c hc => (name_no32 op' c hc).1) h
    refine ⟨e1, ?_⟩
    rw [e, e', show r = r' from e2]
theorem op_in {op rd rs1 rs2 imm csr : Int} (h : isB op rd rs1 rs2 imm csr = true) : 1 ≤ op ∧ op < 70 := by
  unfold isB at h
  simp only [Bool.and_eq_true, bne_iff_ne, ne_eq] at h
  have hc := h.1
  unfold clsI at hc
  split at hc
  · exact absurd rfl hc
  · omega
theorem txt_inj {op rd rs1 rs2 imm csr op' rd' rs1' rs2' imm' csr' : Int} (ha : isB op rd rs1 rs2 imm csr = true) (hb : isB op' rd' rs1' rs2' imm' csr' = true)
    (h : txtL op rd rs1 rs2 imm csr = txtL op' rd' rs1' rs2' imm' csr') : op = op' ∧ rd = rd' ∧ rs1 = rs1' ∧ rs2 = rs2' ∧ imm = imm' ∧ csr = csr' := by
  obtain ⟨hn, ht⟩ := txt_split h
  obtain ⟨o0, o1⟩ := op_in ha
  obtain ⟨p0, p1⟩ := op_in hb
  have hop : op = op' := by
    have := name_inj ⟨op.toNat, by omega⟩ ⟨op'.toNat, by omega⟩ (by simpa [Int.toNat_of_nonneg (show 0 ≤ op by omega), Int.toNat_of_nonneg (show 0 ≤ op' by omega)] using hn)
    simp only at this
    omega
  subst hop
  simp only [isB, Bool.and_eq_true] at ha hb
  obtain ⟨_, a1, a2, a3, a4, a5⟩ := ha
  obtain ⟨_, b1, b2, b3, b4, b5⟩ := hb
  unfold tailL at ht
  obtain ⟨e1, ht⟩ := peel_R (comma_app (comma_N _ _) (comma_app (comma_R _ _) (comma_app (comma_R _ _) (comma_N _ _)))) (comma_app (comma_N _ _) (comma_app (comma_R _ _) (comma_app (comma_R _ _) (comma_N _ _)))) ht
  obtain ⟨e2, ht⟩ := peel_N (comma_app (comma_R _ _) (comma_app (comma_R _ _) (comma_N _ _))) (comma_app (comma_R _ _) (comma_app (comma_R _ _) (comma_N _ _))) ht
  obtain ⟨e3, ht⟩ := peel_R (comma_app (comma_R _ _) (comma_N _ _)) (comma_app (comma_R _ _) (comma_N _ _)) ht
  obtain ⟨e4, ht⟩ := peel_R (comma_N _ _) (comma_N _ _) ht
  obtain ⟨e5, _⟩ := peel_N (r := []) (s := []) (.inl rfl) (.inl rfl) (by simpa using ht)
  have fld : ∀ {b : Bool} {x y : Int}, ((-2147483648 ≤ x ∧ x ≤ 2147483647) ∧ (b = false → x = 0)) → ((-2147483648 ≤ y ∧ y ≤ 2147483647) ∧ (b = false → y = 0)) → (b = true → dgI x = dgI y) → x = y := fun {b x y} hx hy e => by
    cases b
    · rw [hx.2 rfl, hy.2 rfl]
    · exact dgI_inj (by omega) (by omega) (e rfl)
  have r := @reg_facts
  have c := @csr_facts
  have w : ∀ {x : Int} {b : Bool}, ((0 ≤ x ∧ x < 32) ∧ (b = false → x = 0)) → ((-2147483648 ≤ x ∧ x ≤ 2147483647) ∧ (b = false → x = 0)) := fun h => ⟨by omega, h.2⟩
  have w' : ∀ {x : Int} {b : Bool}, ((0 ≤ x ∧ x < 4096) ∧ (b = false → x = 0)) → ((-2147483648 ≤ x ∧ x ≤ 2147483647) ∧ (b = false → x = 0)) := fun h => ⟨by omega, h.2⟩
  exact ⟨rfl, fld (w (r a1)) (w (r b1)) e1, fld (w (r a2)) (w (r b2)) e3, fld (w (r a3)) (w (r b3)) e4, fld (imm_facts a5) (imm_facts b5) e5, fld (w' (c a4)) (w' (c b4)) e2⟩
theorem count_R (x : UInt8) (h : Bool) (n : Int) (hx : x = 44 ∨ x = 32) : (partR h n).count x = cond (h && x == 44) 1 0 := by
  have hd : (dgI n).count x = 0 := List.count_eq_zero.2 fun hm => by
    have := dgI_signs hm
    rcases hx with rfl | rfl
    · have h44 : (44 : UInt8).toNat = 44 := rfl
      omega
    · have h32 : (32 : UInt8).toNat = 32 := rfl
      omega
  cases h
  · rfl
  · unfold partR
    rcases hx with rfl | rfl <;> simp [hd]
theorem count_N (x : UInt8) (h : Bool) (n : Int) (hx : x = 44 ∨ x = 32) : (partN h n).count x = cond (h && x == 44) 1 0 := by
  have hd : (dgI n).count x = 0 := List.count_eq_zero.2 fun hm => by
    have := dgI_signs hm
    rcases hx with rfl | rfl
    · have h44 : (44 : UInt8).toNat = 44 := rfl
      omega
    · have h32 : (32 : UInt8).toNat = 32 := rfl
      omega
  cases h
  · rfl
  · unfold partN
    rcases hx with rfl | rfl <;> simp [hd]
/-- How many parts an operation has. -/
def partsN (op : Int) : Nat := (cond (hasRd op) 1 0) + (cond (hasCsr op) 1 0) + (cond (hasRs1 op) 1 0) + (cond (hasRs2 op) 1 0) + (cond (hasNum op) 1 0)
theorem parts_le (op : Int) : partsN op ≤ 3 :=
  op_cases (p := fun op => partsN op ≤ 3) (by decide +kernel) (fun op h => by unfold partsN; rw [rd_out h, rs1_out h, rs2_out h, csr_out h, num_out h]; decide) op
theorem tail_44 (op rd rs1 rs2 imm csr : Int) : (tailL op rd rs1 rs2 imm csr).count 44 = partsN op := by
  unfold tailL partsN
  simp only [List.count_append, count_R 44 _ _ (.inl rfl), count_N 44 _ _ (.inl rfl), beq_self_eq_true, Bool.and_true]
  omega
theorem tail_32 (op rd rs1 rs2 imm csr : Int) : (tailL op rd rs1 rs2 imm csr).count 32 = 0 := by
  unfold tailL
  simp only [List.count_append, count_R 32 _ _ (.inr rfl), count_N 32 _ _ (.inr rfl), show ((32 : UInt8) == 44) = false from rfl, Bool.and_false, cond_false]
theorem name_count (op : Int) (x : UInt8) (hx : x = 44 ∨ x = 32) : (nameL op).count x = 0 := List.count_eq_zero.2 fun hm => by
  have := name_no32 op x hm
  rcases hx with rfl | rfl
  · exact this.2 rfl
  · exact this.1 rfl
theorem txt_counts (op rd rs1 rs2 imm csr : Int) :
    (tailL op rd rs1 rs2 imm csr = [] ∧ (txtL op rd rs1 rs2 imm csr).count 44 = 0 ∧ (txtL op rd rs1 rs2 imm csr).count 32 = 0)
    ∨ (tailL op rd rs1 rs2 imm csr ≠ [] ∧ (txtL op rd rs1 rs2 imm csr).count 44 ≤ 2 ∧ (txtL op rd rs1 rs2 imm csr).count 32 = 1) := by
  have h4 := tail_44 op rd rs1 rs2 imm csr
  have h3 := tail_32 op rd rs1 rs2 imm csr
  have hp := parts_le op
  rcases tail_nil_or (op := op) (rd := rd) (rs1 := rs1) (rs2 := rs2) (imm := imm) (csr := csr) with e | ⟨r, e⟩
  · refine .inl ⟨e, ?_, ?_⟩ <;> (unfold txtL; rw [if_pos e]; exact name_count op _ (by simp))
  · have hne : tailL op rd rs1 rs2 imm csr ≠ [] := by rw [e]; simp
    refine .inr ⟨hne, ?_, ?_⟩
    · unfold txtL
      rw [if_neg hne, List.count_append, name_count op 44 (.inl rfl), e]
      rw [e] at h4
      simp at h4 ⊢
      omega
    · unfold txtL
      rw [if_neg hne, List.count_append, name_count op 32 (.inr rfl), e]
      rw [e] at h3
      simp at h3 ⊢
      omega
theorem txt_some {op rd rs1 rs2 imm csr : Int} (h : isB op rd rs1 rs2 imm csr = true) : txtL op rd rs1 rs2 imm csr ≠ [] := by
  obtain ⟨o0, o1⟩ := op_in h
  have hn : nameL op ≠ [] := by
    have := op_cases (p := fun op => 1 ≤ op → op < 70 → (nameL op).isEmpty = false) (by decide +kernel) (fun op h a b => by omega) op o0 o1
    intro e
    rw [e] at this
    cases this
  unfold txtL
  split
  · exact hn
  · simp
end Go.Proofs.YtdogjmimjjmmaaaDoor
namespace Go.Proofs.YtdogjmimjjmmaaaDoor
open Go.RowKit
def bs (l : List UInt8) : ByteArray := ⟨l.toArray⟩
theorem bs_app (a b : List UInt8) : bs a ++ bs b = bs (a ++ b) := by
  apply ByteArray.ext
  simp [bs]
theorem dgF_small {f n : Nat} (hf : 0 < f) (hn : n < 10) : dgF f n = [UInt8.ofNat (48 + n)] := by
  obtain ⟨g, rfl⟩ : ∃ g, f = g + 1 := ⟨f - 1, by omega⟩
  rw [dgF, if_pos hn]
theorem dgF_step {f n : Nat} (hn : ¬ n < 10) : dgF (f + 1) n = dgF f (n / 10) ++ [UInt8.ofNat (48 + n % 10)] := by
  rw [dgF, if_neg hn]
theorem conv1 (w : World) (d : Int) :
    (convert 64 9 (.slice (some ⟨w.heap.size, 0, none⟩) 1 1)).run Tryd.prog (w.alloc (.cells #[.int .u8 d] 5)) = .ok (.string (bs [UInt8.ofNat d.toNat])) (w.alloc (.cells #[.int .u8 d] 5)) := by
  have hr := run_loadCells_list (P := Tryd.prog) (w.alloc (.cells #[.int .u8 d] 5)) ⟨w.heap.size, 0, none⟩ [.int .u8 d] (fun j v hv => by
    match j, hv with
    | 0, hv => simp at hv; subst hv; simp [Addr.add])
  rw [run_convert_bytes_string _ 64 9 5 _ _ _ (by kernel_rfl) (by kernel_rfl) (by kernel_rfl)]
  exact run_bytesToString _ ⟨w.heap.size, 0, none⟩ 1 1 [d] hr
theorem dig_of {m : Nat} : (48 + (m : Int) % 10).toNat = 48 + m % 10 := by omega
/-- l: the digits of n behind those of m. -/
def dgRel (n m : Nat) (l : ByteArray) : Prop := ∃ (f : Nat) (t : List UInt8), l = bs t ∧ dgF 20 n = dgF (f + 1) m ++ t ∧ m < 10 ^ (f + 1) ∧ t.length + f = 19
theorem dgRel.last {n m : Nat} {l c : ByteArray} (h : dgRel n m l) (hm : m < 10) (hc : c = bs [UInt8.ofNat (48 + m % 10)]) : c ++ l = bs (dgF 20 n) := by
  obtain ⟨f, t, rfl, he, _, _⟩ := h
  rw [hc, bs_app, he, dgF_small (by omega) hm, Nat.mod_eq_of_lt hm]
theorem dgRel.next {n m : Nat} {l c : ByteArray} (h : dgRel n m l) (hm : ¬ m < 10) (hc : c = bs [UInt8.ofNat (48 + m % 10)]) : dgRel n (m / 10) (c ++ l) := by
  obtain ⟨f, t, rfl, he, hb, hl⟩ := h
  match f, he, hb, hl with
  | 0, he, hb, _ => exact absurd (by simpa using hb) hm
  | f + 1, he, hb, hl =>
    refine ⟨f, UInt8.ofNat (48 + m % 10) :: t, ?_, ?_, ?_, by simp; omega⟩
    · rw [hc, bs_app]; rfl
    · rw [he, dgF_step hm]; simp
    · rw [Nat.pow_succ] at hb
      omega
def msr (v : Value) : Nat := (intOf v).toNat
def lt63 (m : Nat) : Prop := (m : Int) < 9223372036854775808
theorem dgRel.size {n m : Nat} {l : ByteArray} (h : dgRel n m l) : l.size ≤ 19 := by
  obtain ⟨f, t, rfl, _, _, hl⟩ := h
  show t.toArray.size ≤ 19
  simp
  omega
theorem add_small (P : Program) (a b r : ByteArray) (ha : a.size ≤ 1000) (hb : b.size ≤ 1000) (hr : a ++ b = r) (w : World) : (Op.stringOp .add a b).run P w = .ok (.string r) w := by
  rw [← hr]
  exact run_string_add_sum w a b (by omega)
set_option maxRecDepth 100000 in
set_option maxHeartbeats 1000000 in
theorem digits_pos (n : Int) (h0 : 0 ≤ n) (h1 : n < 9223372036854775808) (w : World) :
    Calls Tryd.prog 30 #[.int .i64 n] w fun e w' => e = .returned (.string (bs (dgF 20 n.toNat))) ∧ Grown w w' := by
  obtain ⟨N, hN⟩ : ∃ N, n.toNat = N := ⟨_, rfl⟩
  rw [hN]
  obtain ⟨A, hA⟩ : ∃ A, bs (dgF 20 N) = A := ⟨_, rfl⟩
  rw [hA]
  go_enter Tryd.func30, Tryd.ntmps30
  go_wp2
  go_loopw [0, 3] (fun i s wr => ∃ (m : Nat) (l : ByteArray), i = .int .i64 m ∧ s = .string l ∧ dgRel N m l ∧ lt63 m ∧ Grown w wr) (fun i _ _ => msr i)
  case atStart => exact ⟨N, ⟨#[]⟩, by rw [← hN, Int.toNat_of_nonneg h0], rfl, ⟨19, [], rfl, by simp, by omega, rfl⟩, by unfold lt63; omega, Grown.refl _⟩
  case round =>
    obtain ⟨m, l, rfl, rfl, he, hm4, hg⟩ := hrel
    have hm3 : (m : Int) < 9223372036854775808 := hm4
    clear hm4
    have hc := conv1 wr (48 + (m : Int) % 10)
    rw [dig_of] at hc
    obtain ⟨c, hcc⟩ : ∃ c, c = bs [UInt8.ofNat (48 + m % 10)] := ⟨_, rfl⟩
    rw [← hcc] at hc
    have hls := he.size
    have hcs : c.size = 1 := by rw [hcc]; rfl
    by_cases h10 : m < 10
    · have hq : (m : Int) / 10 = 0 := by omega
      have hz := add_small Tryd.prog c l A (by omega) (by omega) ((he.last h10 hcc).trans hA)
      clear hcc he hA hls hcs
      go_wp2
      go_ret
      exact ⟨rfl, hg.alloc _ _⟩
    · obtain ⟨q, hq⟩ : ∃ q : Nat, m / 10 = q := ⟨_, rfl⟩
      have hq1 : (m : Int) / 10 = (q : Int) := by omega
      have hq2 : ((q : Int) == 0) = false := by simp; omega
      have hq3 : lt63 q := by unfold lt63; omega
      have hx := he.next h10 hcc
      rw [hq] at hx
      have hlt : q < m := by omega
      obtain ⟨R, hR⟩ : ∃ R, c ++ l = R := ⟨_, rfl⟩
      have hz := add_small Tryd.prog c l R (by omega) (by omega) hR
      rw [hR] at hx
      clear hcc he hA hls hcs hR hq h10
      go_wp2
      refine ⟨⟨q, R, rfl, rfl, hx, hq3, hg.alloc _ _⟩, ?_⟩
      unfold msr
      simp [intOf]
      exact hlt
theorem dgF_len : ∀ (f n : Nat), (dgF f n).length ≤ f
  | 0, n => by simp [dgF]
  | f + 1, n => by
    unfold dgF
    split
    · simp
    · have := dgF_len f (n / 10)
      simp
      exact this
theorem dgI_len (n : Int) : (dgI n).length ≤ 21 := by
  unfold dgI
  split
  · have := dgF_len 20 (-n).toNat
    simp
    omega
  · have := dgF_len 20 n.toNat
    omega
theorem bs_size (l : List UInt8) : (bs l).size = l.length := by
  show l.toArray.size = _
  simp
theorem add_bs (P : Program) (a b : List UInt8) (h : a.length + b.length ≤ 1000) (w : World) : (Op.stringOp .add (bs a) (bs b)).run P w = .ok (.string (bs (a ++ b))) w := by
  rw [← bs_app]
  exact run_string_add_sum w _ _ (by rw [bs_size, bs_size]; omega)
set_option maxRecDepth 100000 in
set_option maxHeartbeats 1000000 in
theorem digits_any (n : Int) (h0 : -9223372036854775808 < n) (h1 : n < 9223372036854775808) (w : World) :
    Calls Tryd.prog 30 #[.int .i64 n] w fun e w' => e = .returned (.string (bs (dgI n))) ∧ Grown w w' := by
  by_cases hn : n < 0
  · have hp := digits_pos (-n) (by omega) (by omega)
    obtain ⟨D, hD⟩ : ∃ D, dgF 20 (-n).toNat = D := ⟨_, rfl⟩
    have hl : D.length ≤ 20 := by rw [← hD]; exact dgF_len _ _
    have hz := add_bs Tryd.prog [45] D (by simp; omega)
    have he : dgI n = 45 :: D := by unfold dgI; rw [if_pos hn, hD]
    rw [he]
    rw [hD] at hp
    clear hD hl he
    go_enter Tryd.func30, Tryd.ntmps30
    have hz' : ∀ w : World, (Op.stringOp .add ⟨#[45]⟩ (bs D)).run Tryd.prog w = .ok (.string (bs (45 :: D))) w := hz
    clear hz
    go_wp2_with fail
    refine (hp w).mono ?_
    rintro e w' ⟨rfl, hg⟩
    go_wp2_with fail
    go_ret
    exact ⟨rfl, hg⟩
  · have he : dgI n = dgF 20 n.toNat := by unfold dgI; rw [if_neg hn]
    rw [he]
    exact digits_pos n (by omega) h1 w
end Go.Proofs.YtdogjmimjjmmaaaDoor
