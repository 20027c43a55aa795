/-
  A word cut anywhere is both its parts, bytes of parts are parts of its bytes: the plain mathematics of statement WordParts.
-/
import Derived.Test.YtnmlkhecjohepaaSigns
namespace Go.Proofs.Ytnmlkhecjohepaa
open Go.RowKit
theorem bytes_take (v m : Int) (h0 : 0 ≤ m) (h1 : m ≤ 8) : bytesI v m = (bytesI v 8).extract 0 m.toNat := by
  have e : ∀ a b : ByteArray, a.data.toList = b.data.toList → a = b := by
    intro a b h; cases a; cases b; simp only [ByteArray.mk.injEq]; exact Array.toList_inj.1 h
  apply e
  rw [ByteArray.data_extract, Array.toList_extract, List.extract_eq_take_drop]
  unfold bytesI
  rw [str_list, str_list, clamp_id m 0 8 h0 h1, clamp_id 8 0 8 (by omega) (by omega)]
  rw [List.drop_zero, Nat.sub_zero, ← List.map_take, List.take_take, show min m.toNat (8 : Int).toNat = m.toNat from by rw [show (8 : Int).toNat = 8 from rfl]; omega]
theorem bytes_size (v m : Int) : ((bytesI v m).size : Int) = clamp m 0 8 := by
  obtain ⟨hb1, hb2⟩ := clamp_bd m 0 8 (by omega)
  have h : (bytesI v m).data.toList.length = (clamp m 0 8).toNat := by
    unfold bytesI; rw [str_list]; simp [byteRow]; omega
  have e : (bytesI v m).size = (bytesI v m).data.toList.length := by simp
  omega
theorem parts1 {v : Int} (hv : U v) (c : Int) (h0 : 0 ≤ c) (h1 : c < 64) : bits .or .u64 (bitsI v 0 c) (IntKind.u64.wrap (bitsI v c (64 - c) * 2 ^ c.toNat)) = v := by
  refine (U_or _ _).ext hv fun i hi => ?_
  rw [tb_or (U_bits _ _ _) (U_wrap _), tb_shl (U_bits _ _ _), tb_bits hv, tb_bits hv, lo_id 0 (by omega) (by omega), lo_id c h0 h1, many_id 0 c (by omega) (by omega) h0 (by omega), many_id c (64 - c) h0 h1 (by omega) (by omega)]
  rw [show i + Int.toNat 0 = i from rfl, decide_eq_true hi, Bool.true_and]
  by_cases h : (i : Int) < c
  · rw [decide_eq_true h, decide_eq_false (by omega), Bool.and_true, Bool.false_and, Bool.or_false]
  · rw [decide_eq_false h, decide_eq_true (by omega), decide_eq_true (by omega), Bool.and_false, Bool.false_or, Bool.true_and, Bool.and_true, show i - c.toNat + c.toNat = i by omega]
theorem parts2 {v : Int} (hv : U v) (c : Int) (h0 : 0 ≤ c) (h1 : c < 64) : setI (setI 0 0 c (bitsI v 0 c)) c (64 - c) (bitsI v c (64 - c)) = v := by
  have hU0 : U 0 := by unfold U; omega
  refine (U_set _ _ _ _).ext hv fun i hi => ?_
  rw [tb_set (U_set _ _ _ _) (U_bits _ _ _) _ _ _ hi, tb_set hU0 (U_bits _ _ _) _ _ _ hi, tb_bits hv, tb_bits hv, lo_id 0 (by omega) (by omega), lo_id c h0 h1, many_id 0 c (by omega) (by omega) h0 (by omega), many_id c (64 - c) h0 h1 (by omega) (by omega)]
  by_cases h : (i : Int) < c
  · rw [if_neg (by omega), if_pos (by omega), decide_eq_true (by omega), Bool.and_true]; congr 1
  · rw [if_pos (by omega), decide_eq_true (by omega), Bool.and_true, show i - c.toNat + c.toNat = i by omega]
theorem parts4 {v : Int} (hv : U v) (m : Int) (h0 : 0 ≤ m) (h1 : m ≤ 8) : getI (bytesI v 8).data.toList 0 m = bitsI v 0 (8 * m) := by
  refine (U_get _ _ _).ext (U_bits _ _ _) fun i hi => ?_
  rw [tb_get_bytes hv _ _ _ _ hi, tb_bits hv, lo_id 0 (by omega) (by omega), many_id 0 (8 * m) (by omega) (by omega) (by omega) (by omega), clamp_id 8 0 8 (by omega) (by omega), clamp_id m 0 8 h0 h1]
  rw [show ((i : Int) + 8 * 0).toNat = i by omega, show i + Int.toNat 0 = i from rfl]
  by_cases h : (i : Int) < 8 * m
  · rw [decide_eq_true (by omega), decide_eq_true h, Bool.true_and, Bool.and_true]
  · rw [decide_eq_false (by omega), decide_eq_false h, Bool.false_and, Bool.and_false]
theorem parts5 {v : Int} (hv : U v) (m : Int) (h0 : 0 ≤ m) (h1 : m ≤ 8) : getI (bytesI v 8).data.toList m 8 = IntKind.u64.wrap (bitsI v (8 * mn m 7) 64 * mn 1 (8 - m)) := by
  by_cases h8 : m = 8
  · subst h8
    rw [get_zero _ _ _ (Or.inr (by have := bytes_size v 8; have e : (bytesI v 8).size = (bytesI v 8).data.toList.length := by simp
                                   rw [clamp_id 8 0 8 (by omega) (by omega)] at this; omega))]
    rw [show mn 1 (8 - 8) = 0 from rfl, Int.mul_zero]; rfl
  · have e1 : mn m 7 = m := by unfold mn; split <;> omega
    have e2 : mn 1 (8 - m) = 1 := by unfold mn; split <;> omega
    rw [e1, e2, Int.mul_one, wrap_id (U_bits _ _ _)]
    refine (U_get _ _ _).ext (U_bits _ _ _) fun i hi => ?_
    have hm : manyI (8 * m) 64 = 64 - 8 * m := by
      have hl := lo_id (8 * m) (by omega) (by omega)
      show clamp 64 0 (64 - loI (8 * m)) = _
      rw [hl]
      unfold clamp; split <;> split <;> omega
    rw [tb_get_bytes hv _ _ _ _ hi, tb_bits hv, hm, lo_id (8 * m) (by omega) (by omega), clamp_id 8 0 8 (by omega) (by omega)]
    rw [show ((i : Int) + 8 * m).toNat = i + (8 * m).toNat by omega]
    by_cases h : (i : Int) < 64 - 8 * m
    · rw [decide_eq_true (by omega), decide_eq_true h, Bool.true_and, Bool.and_true]
    · rw [decide_eq_false (by omega), decide_eq_false h, Bool.false_and, Bool.and_false]
end Go.Proofs.Ytnmlkhecjohepaa
