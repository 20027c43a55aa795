/-
  sallyportlaw4.EncodeTexts, walked whole: true for every instruction.
-/
import Derived.Test.YtdogjmimjjmmaaaDoorEncFrom
namespace Go.Proofs.YtdogjmimjjmmaaaDoor
open Go.RowKit
/-- The byte at a place of a text. -/
def byteAt (l : List UInt8) (k : Nat) : Int := ((l.getD k 0).toNat : Int)
theorem index_bs (w : World) (l : List UInt8) (k : Nat) (hk : k < l.length) : (Instr.index 9 (.string (bs l)) (.int .i64 (k : Int))).run Tryd.prog w = .ok (.int .u8 (byteAt l k)) w := by
  rw [run_index_string w _ _ _ _ (by kernel_rfl)]
  have hi : 0 ≤ (k : Int) ∧ (k : Int) < (bs l).size := ⟨by omega, by rw [bs_size]; exact_mod_cast hk⟩
  rw [dif_pos hi]
  have e : byteAt l k = ((l[k]).toNat : Int) := by
    unfold byteAt
    rw [List.getD_eq_getElem?_getD, List.getElem?_eq_getElem hk]
    rfl
  rw [e]
  rfl
theorem count_step (l : List UInt8) (k : Nat) (hk : k < l.length) (x : UInt8) : (l.take (k + 1)).count x = (l.take k).count x + (if byteAt l k = x.toNat then 1 else 0) := by
  rw [List.take_add_one, List.count_append, List.getElem?_eq_getElem hk]
  congr 1
  unfold byteAt
  rw [List.getD_eq_getElem?_getD, List.getElem?_eq_getElem hk]
  simp only [Option.getD_some, Option.toList_some, List.count_cons, List.count_nil, Nat.zero_add, beq_iff_eq]
  by_cases e : l[k] = x
  · simp [e]
  · have : ¬ ((l[k].toNat : Int) = (x.toNat : Int)) := fun h => e (UInt8.toNat_inj.1 (by exact_mod_cast h))
    rw [if_neg e, if_neg this]
theorem len_lt {l : List UInt8} (h : l.length ≤ 200) : (l.length : Int) < 9223372036854775807 := by omega
theorem txt_len {op rd rs1 rs2 imm csr : Int} : (txtL op rd rs1 rs2 imm csr).length ≤ 200 := by
  have hn := name_len op
  have hR : ∀ (h : Bool) (n : Int), (partR h n).length ≤ 23 := fun h n => by
    have := dgI_len n
    cases h <;> simp [partR]
    omega
  have hN : ∀ (h : Bool) (n : Int), (partN h n).length ≤ 22 := fun h n => by
    have := dgI_len n
    cases h <;> simp [partN]
    omega
  have ht : (tailL op rd rs1 rs2 imm csr).length ≤ 113 := by
    unfold tailL
    simp only [List.length_append]
    have := hR (hasRd op) rd
    have := hN (hasCsr op) csr
    have := hR (hasRs1 op) rs1
    have := hR (hasRs2 op) rs2
    have := hN (hasNum op) imm
    omega
  unfold txtL
  split
  · omega
  · simp only [List.length_append, List.length_cons, List.length_tail]
    omega
theorem eq_yes : (bs ([] : List UInt8)).toList.isEmpty = true := by
  unfold bs
  rw [ByteArray.toList_mk]
  rfl
set_option maxRecDepth 100000 in
set_option maxHeartbeats 4000000 in
theorem texts_law (op rd rs1 rs2 imm csr : Int) (W : World) (hT : Tab4 W) :
    Calls Tryd.prog 8 #[.agg #[.int .i64 op, .int .i64 rd, .int .i64 rs1, .int .i64 rs2, .int .i64 imm, .int .i64 csr]] W fun e w' => e = .returned (.bool true) ∧ More W w' := by
  have hT1 := hT.grown ((More.refl W).alloc #[.int .i64 op, .int .i64 rd, .int .i64 rs1, .int .i64 rs2, .int .i64 imm, .int .i64 csr] 23)
  have hg := More.refl (W.alloc (.cells #[.int .i64 op, .int .i64 rd, .int .i64 rs1, .int .i64 rs2, .int .i64 imm, .int .i64 csr] 23))
  cases h : isB op rd rs1 rs2 imm csr
  · have hE := (e_no h).2.1
    have hS := (e_no h).2.2
    have hz := eq_yes
    go_enter Tryd.func8, Tryd.ntmps8
    go_wp2_with (first | (go_at_call 9; refine (known4_from hT1 hg).mono ?_; rintro e w' ⟨rfl, hg⟩; obtain ⟨c0, c1, c2, c3, c4, c5⟩ := (Six.new _ _ _ _ _ _ _ _).more hg) | (go_at_call 10; refine (enc4_from hT1 hg _ _ _ _ _ _).mono ?_; rintro e w' ⟨rfl, hg⟩; obtain ⟨c0, c1, c2, c3, c4, c5⟩ := (Six.new _ _ _ _ _ _ _ _).more hg) | (go_at_call 11; refine (renc_from hg _ _ _ _ _ _).mono ?_; rintro e w' ⟨rfl, hg⟩; obtain ⟨c0, c1, c2, c3, c4, c5⟩ := (Six.new _ _ _ _ _ _ _ _).more hg) | (go_at_call 12; refine (text4_from hT1 hg _ _ _ _ _ _).mono ?_; rintro e w' ⟨rfl, hg⟩; obtain ⟨c0, c1, c2, c3, c4, c5⟩ := (Six.new _ _ _ _ _ _ _ _).more hg))
    go_ret
    exact ⟨rfl, More.trans' ((More.refl _).alloc _ _) hg⟩
  · have hE := (e_yes h).2.1
    have hS := (e_yes h).2.2
    have hne := txt_some h
    have hlen := txt_len (op := op) (rd := rd) (rs1 := rs1) (rs2 := rs2) (imm := imm) (csr := csr)
    have hcn := txt_counts op rd rs1 rs2 imm csr
    obtain ⟨l, hl⟩ : ∃ l, txtL op rd rs1 rs2 imm csr = l := ⟨_, rfl⟩
    rw [hl] at hS hne hlen hcn
    have hcn' : l.count 44 ≤ 2 ∧ l.count 32 ≤ 1 ∧ (l.count 32 = 1 ∨ l.count 44 = 0) := by
      rcases hcn with ⟨_, a, b⟩ | ⟨_, a, b⟩ <;> omega
    clear hl hcn
    have hz := eq_no hne
    have hsz := bs_size l
    go_enter Tryd.func8, Tryd.ntmps8
    go_wp2_with (first | (go_at_call 9; refine (known4_from hT1 hg).mono ?_; rintro e w' ⟨rfl, hg⟩; obtain ⟨c0, c1, c2, c3, c4, c5⟩ := (Six.new _ _ _ _ _ _ _ _).more hg) | (go_at_call 10; refine (enc4_from hT1 hg _ _ _ _ _ _).mono ?_; rintro e w' ⟨rfl, hg⟩; obtain ⟨c0, c1, c2, c3, c4, c5⟩ := (Six.new _ _ _ _ _ _ _ _).more hg) | (go_at_call 11; refine (renc_from hg _ _ _ _ _ _).mono ?_; rintro e w' ⟨rfl, hg⟩; obtain ⟨c0, c1, c2, c3, c4, c5⟩ := (Six.new _ _ _ _ _ _ _ _).more hg) | (go_at_call 12; refine (text4_from hT1 hg _ _ _ _ _ _).mono ?_; rintro e w' ⟨rfl, hg⟩; obtain ⟨c0, c1, c2, c3, c4, c5⟩ := (Six.new _ _ _ _ _ _ _ _).more hg))
    clear c0 c1 c2 c3 c4 c5
    have hlen' : (l.length : Int) ≤ 200 := by omega
    go_loop [6, 7, 8] (fun c b i => ∃ k : Nat, k ≤ l.length ∧ i = .int .i64 k ∧ c = .int .i64 ((l.take k).count 44 : Nat) ∧ b = .int .i64 ((l.take k).count 32 : Nat)) (fun _ _ i => l.length - (intOf i).toNat)
    case atStart => exact ⟨0, by omega, rfl, by simp, by simp⟩
    case round =>
      obtain ⟨k, hk, rfl, rfl, rfl⟩ := hrel
      by_cases hlt : k < l.length
      · have hlt' : (k : Int) < l.length := by omega
        have hx := fun w => index_bs w l k hlt
        have s4 := count_step l k hlt 44
        have s3 := count_step l k hlt 32
        rw [show ((UInt8.toNat 44 : Nat) : Int) = 44 from rfl] at s4
        rw [show ((UInt8.toNat 32 : Nat) : Int) = 32 from rfl] at s3
        have t4 : (l.take k).count 44 ≤ 200 := Nat.le_trans List.count_le_length (by simp; omega)
        have t3 : (l.take k).count 32 ≤ 200 := Nat.le_trans List.count_le_length (by simp; omega)
        generalize (l.take k).count 44 = A at *
        generalize (l.take k).count 32 = B at *
        have hc4 : (byteAt l k == 44) = true ∧ (l.take (k + 1)).count 44 = A + 1 ∨ (byteAt l k == 44) = false ∧ (l.take (k + 1)).count 44 = A := by
          by_cases e : byteAt l k = 44
          · left; exact ⟨by simp [e], by rw [s4, if_pos e]⟩
          · right; exact ⟨by simp [e], by rw [s4, if_neg e, Nat.add_zero]⟩
        have hc3 : (byteAt l k == 32) = true ∧ (l.take (k + 1)).count 32 = B + 1 ∨ (byteAt l k == 32) = false ∧ (l.take (k + 1)).count 32 = B := by
          by_cases e : byteAt l k = 32
          · left; exact ⟨by simp [e], by rw [s3, if_pos e]⟩
          · right; exact ⟨by simp [e], by rw [s3, if_neg e, Nat.add_zero]⟩
        clear s4 s3
        rcases hc4 with ⟨q4, n4⟩ | ⟨q4, n4⟩ <;> rcases hc3 with ⟨q3, n3⟩ | ⟨q3, n3⟩
        all_goals
          have n4' : Hid ((l.take (k + 1)).count 44 = _) := n4
          have n3' : Hid ((l.take (k + 1)).count 32 = _) := n3
          clear n4 n3
          go_wp2
          refine ⟨⟨k + 1, by omega, by simp, ?_, ?_⟩, ?_⟩
          · rw [show _ = _ from n4']; all_goals simp
          · rw [show _ = _ from n3']; all_goals simp
          · simp [intOf]; omega
      · obtain rfl : k = l.length := by omega
        rw [List.take_length]
        obtain ⟨m4, m3, m⟩ := hcn'
        have m3' : l.count 32 = 1 ∨ l.count 32 = 0 := by omega
        have hnl : ¬ (l.length : Int) < l.length := by omega
        rcases m3' with m3' | m3'
        · have m4' : ((l.count 44 : Nat) : Int) ≤ 2 := by omega
          rw [m3']
          generalize l.count 44 = A at *
          go_wp2
          go_ret
          exact ⟨rfl, More.trans' ((More.refl _).alloc _ _) hg⟩
        · have m4' : l.count 44 = 0 := by omega
          rw [m3', m4']
          go_wp2
          go_ret
          exact ⟨rfl, More.trans' ((More.refl _).alloc _ _) hg⟩
end Go.Proofs.YtdogjmimjjmmaaaDoor
