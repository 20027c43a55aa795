/-
  What is put out and typed at the document's bus (Put, Type of the reference): walked whole, for every argument.
-/
import Derived.Test.YtpnlicklfemjeaaRefBus
import Derived.Test.YtpnlicklfemjeaaRefPlain
namespace Go.Proofs.Ytpnlicklfemjeaa
open Go.RowKit
theorem add_bs (P : Program) (a b : List UInt8) (h : a.length + b.length ≤ 1000) (w : World) : (Op.stringOp .add (bs a) (bs b)).run P w = .ok (.string (bs (a ++ b))) w := by
  have hs : (bs a).size + (bs b).size ≤ 1000 := by rw [bs_size, bs_size]; exact h
  have e : bs a ++ bs b = bs (a ++ b) := by
    apply ByteArray.ext
    simp [bs]
  rw [← e]
  exact run_string_add_sum w _ _ (by omega)
theorem bs_extract (l : List UInt8) (i j : Nat) : (bs l).extract i j = bs ((l.take j).drop i) := by
  apply ByteArray.ext
  simp [bs, ByteArray.data_extract, List.drop_take]
theorem refF_upd (p : Nat) (M : BusM) {k : Nat} (hk : k < 4) (x : Prt) (j : Nat) : refF p ⟨M.t, M.a, upd M.P k x, M.B⟩ j = if j = 3 + k then .string (bs x.pend) else if j = 7 + k then .int .i64 (x.typ : Int) else if j = 11 + k then .string (bs x.out) else refF p M j := by
  by_cases e1 : j = 3 + k
  · rw [if_pos e1, e1, refF_in _ _ hk]; show Value.string (bs (upd M.P k x k).pend) = _; rw [upd_same]
  · rw [if_neg e1]
    by_cases e2 : j = 7 + k
    · rw [if_pos e2, e2, refF_typ _ _ hk]; show Value.int .i64 ((upd M.P k x k).typ : Int) = _; rw [upd_same]
    · rw [if_neg e2]
      by_cases e3 : j = 11 + k
      · rw [if_pos e3, e3, refF_out _ _ hk]; show Value.string (bs (upd M.P k x k).out) = _; rw [upd_same]
      · rw [if_neg e3]
        unfold refF
        by_cases f0 : j = 0
        · rw [if_pos f0, if_pos f0]
        · rw [if_neg f0, if_neg f0]
          by_cases f1 : j = 1
          · rw [if_pos f1, if_pos f1]
          · rw [if_neg f1, if_neg f1]
            by_cases f2 : j = 2
            · rw [if_pos f2, if_pos f2]
            · rw [if_neg f2, if_neg f2]
              by_cases f3 : j < 7
              · rw [if_pos f3, if_pos f3]; show Value.string (bs (upd M.P k x (j - 3)).pend) = _; rw [upd_other _ _ (by omega)]
              · rw [if_neg f3, if_neg f3]
                by_cases f4 : j < 11
                · rw [if_pos f4, if_pos f4]; show Value.int .i64 ((upd M.P k x (j - 7)).typ : Int) = _; rw [upd_other _ _ (by omega)]
                · rw [if_neg f4, if_neg f4]
                  by_cases f5 : j < 15
                  · rw [if_pos f5, if_pos f5]; show Value.string (bs (upd M.P k x (j - 11)).out) = _; rw [upd_other _ _ (by omega)]
                  · rw [if_neg f5, if_neg f5]
theorem refF_put (p : Nat) (M : BusM) {k : Nat} (hk : k < 4) (x : Prt) (hp : x.pend = (M.P k).pend) (ht : x.typ = (M.P k).typ) (j : Nat) : refF p ⟨M.t, M.a, upd M.P k x, M.B⟩ j = if j = 11 + k then .string (bs x.out) else refF p M j := by
  rw [refF_upd p M hk]
  by_cases e1 : j = 3 + k
  · rw [if_pos e1, if_neg (by omega), e1, refF_in p M hk, hp]
  · rw [if_neg e1]
    by_cases e2 : j = 7 + k
    · rw [if_pos e2, if_neg (by omega), e2, refF_typ p M hk, ht]
    · rw [if_neg e2]
theorem refF_take (p : Nat) (M : BusM) {k : Nat} (hk : k < 4) (x : Prt) (ho : x.out = (M.P k).out) (ht : x.typ = (M.P k).typ) (j : Nat) : refF p ⟨M.t, M.a, upd M.P k x, M.B⟩ j = if j = 3 + k then .string (bs x.pend) else refF p M j := by
  rw [refF_upd p M hk]
  by_cases e1 : j = 3 + k
  · rw [if_pos e1, if_pos e1]
  · rw [if_neg e1, if_neg e1]
    by_cases e2 : j = 7 + k
    · rw [if_pos e2, e2, refF_typ p M hk, ht]
    · rw [if_neg e2]
      by_cases e3 : j = 11 + k
      · rw [if_pos e3, e3, refF_out p M hk, ho]
      · rw [if_neg e3]
theorem one_row (w : World) (v : Value) (T : TypeId) : (w.alloc (.cells #[v] T)).rowIs w.heap.size T 1 (fun _ => v) := by
  refine World.rowIs_alloc w #[v] T (fun _ => v) fun i hi => ?_
  have h1 : i < 1 := hi
  obtain rfl : i = 0 := by omega
  rfl
theorem conv_one (w : World) (c : UInt8) : (convert 67 9 (.slice (some ⟨w.heap.size, 0, none⟩) 1 1)).run Try.prog (w.alloc (.cells #[.int .u8 (c.toNat : Int)] 5)).drew = .ok (.string (bs [c])) (w.alloc (.cells #[.int .u8 (c.toNat : Int)] 5)).drew := by
  refine conv_row (one_row w (.int .u8 (c.toNat : Int)) 5).drew 0 1 1 (by omega) [c] rfl (fun j x hx => ?_)
  have h1 : j < 1 := (List.getElem?_eq_some_iff.1 hx).1
  obtain rfl : j = 0 := by omega
  simp at hx
  rw [hx]
section
variable {w : World} {b p q : Nat} {M : BusM}
set_option maxRecDepth 10000 in
set_option maxHeartbeats 1000000 in
theorem rput_any (k : Nat) (hk : k < 4) (c : UInt8) (h : RefBus w b p q M) :
    Calls Try.prog 42 #[.pointer (some ⟨b, 0, none⟩), .int .i64 (k : Int), .int .u8 (c.toNat : Int)] w fun e w' => e = .returned (.tuple #[]) ∧ RefBus w' b p q ⟨M.t, M.a, upd M.P k ((M.P k).put c), M.B⟩ ∧ Only (fun i => i = b ∨ i = q) w w' := by
  obtain ⟨l, hl⟩ : ∃ l, (M.P k).out = l := ⟨_, rfl⟩
  have cout := h.cout hk
  rw [hl] at cout
  have hlen : l.length ≤ 64 := by rw [← hl]; exact (h.ok.P k).out
  have hadd := add_bs Try.prog l [c] (by simp; omega)
  have l0 : (0 : Int) ≤ (k : Int) := by omega
  have l1 : (k : Int) < 4 := by omega
  have fz := h.row.frozen (11 + k)
  have hrA := (h.row.alloc (.cells #[.int .u8 (c.toNat : Int)] 5)).drew
  have coutA : (w.alloc (.cells #[.int .u8 (c.toNat : Int)] 5)).drew.cell? ⟨b, 11 + k, none⟩ = some (.string (bs l)) := by rw [hrA.cell (by omega), refF_out p M hk, hl]
  have fzA := hrA.frozen (11 + k)
  have hcv := conv_one w c
  have hkA : Only (fun i => i = b) w (w.alloc (.cells #[.int .u8 (c.toNat : Int)] 5)).drew := ((Only.refl _ w).alloc _).drew
  go_enter Try.func42, Try.ntmps42
  go_wp2
  go_region
  have hr1 := hrA.set (11 + k) (.string (bs (l ++ [c])))
  have hk1 := hkA.setCell (x := ⟨b, 11 + k, none⟩) rfl (.string (bs (l ++ [c])))
  generalize hW : ((w.alloc (.cells #[.int .u8 (c.toNat : Int)] 5)).setCell ⟨b, 11 + k, none⟩ (.string (bs (l ++ [c])))).drew = W1
  rw [show ((w.alloc (.cells #[.int .u8 (c.toNat : Int)] 5)).drew.setCell ⟨b, 11 + k, none⟩ (.string (bs (l ++ [c])))) = W1 from hW] at hr1 hk1
  have c1 := hr1.cell (i := 11 + k) (by omega)
  rw [if_pos rfl] at c1
  have f1 := hr1.frozen (11 + k)
  have hsz : ((bs (l ++ [c])).size : Int) = (l.length : Int) + 1 := by rw [bs_size]; simp
  clear hrA coutA fzA hcv hkA hadd cout fz
  by_cases h64 : l.length < 64
  · have hnot : ¬ 64 < (l.length : Int) + 1 := by omega
    have hpost := h.to hk1 (M' := ⟨M.t, M.a, upd M.P k ((M.P k).put c), M.B⟩) (hr1.congr fun j hj => by
      rw [refF_put p M hk ((M.P k).put c) rfl rfl]
      have e : ((M.P k).put c).out = l ++ [c] := by simp [Prt.put, last64, hl, show l.length + 1 - 64 = 0 by omega]
      rw [e]) rfl (h.ok.port ((h.ok.P k).put c))
    go_wp2
    go_end0
    exact ⟨rfl, hpost⟩
  · have hyes : 64 < (l.length : Int) + 1 := by omega
    have hs1 : (1 : Int) ≤ (bs (l ++ [c])).size := by omega
    have hex : (bs (l ++ [c])).extract 1 (bs (l ++ [c])).size = bs ((M.P k).put c).out := by
      rw [bs_extract, bs_size, List.take_of_length_le (Nat.le_refl _)]
      simp [Prt.put, last64, hl, show l.length = 64 by omega]
    have hpost := h.to (hk1.drew.setCell (x := ⟨b, 11 + k, none⟩) rfl (.string (bs ((M.P k).put c).out))) (M' := ⟨M.t, M.a, upd M.P k ((M.P k).put c), M.B⟩) ((hr1.drew.set (11 + k) (.string (bs ((M.P k).put c).out))).congr fun j hj => by
      rw [refF_put p M hk ((M.P k).put c) rfl rfl]
      by_cases e3 : j = 11 + k
      · rw [if_pos e3, if_pos e3]
      · rw [if_neg e3, if_neg e3, if_neg e3]) rfl (h.ok.port ((h.ok.P k).put c))
    go_wp2
    go_region
    go_wp2
    go_end0
    exact ⟨rfl, hpost⟩
set_option maxRecDepth 10000 in
set_option maxHeartbeats 1000000 in
theorem rtype_in (k : Nat) (hk : k < 4) (S : List UInt8) (hS : S.length ≤ 100) (h : RefBus w b p q M) :
    Calls Try.prog 18 #[.pointer (some ⟨b, 0, none⟩), .int .i64 (k : Int), .string (bs S)] w fun e w' => e = .returned (.tuple #[]) ∧ RefBus w' b p q ⟨M.t, M.a, upd M.P k ((M.P k).type S), M.B⟩ ∧ Only (fun i => i = b ∨ i = q) w w' := by
  have hmn := fun ts t k k' x y w => run_mn (P := Try.prog) (w := w) ts t k k' x y
  have ht := (h.ok.P k).typ
  have hp := (h.ok.P k).pend
  obtain ⟨y, hy⟩ : ∃ y, (M.P k).typ = y := ⟨_, rfl⟩
  obtain ⟨l, hl⟩ : ∃ l, (M.P k).pend = l := ⟨_, rfl⟩
  obtain ⟨n, hn⟩ : ∃ n, n = min S.length (64 - y) := ⟨_, rfl⟩
  have ctyp := h.ctyp hk
  have cin := h.cin hk
  rw [hy] at ctyp ht hp
  rw [hl] at cin hp
  have hsz : ((bs S).size : Int) = (S.length : Int) := by rw [bs_size]
  have hm : mn (S.length : Int) (64 - (y : Int)) = (n : Int) := by unfold mn; split <;> omega
  have l0 : (0 : Int) ≤ (k : Int) := by omega
  have l1 : (k : Int) < 4 := by omega
  have f3 := h.row.frozen (3 + k)
  have f7 := h.row.frozen (7 + k)
  have n0 : (0 : Int) ≤ (n : Int) := by omega
  have n1 : (n : Int) ≤ (S.length : Int) := by omega
  have hex : (bs S).extract 0 n = bs (S.take n) := by rw [bs_extract, List.drop_zero]
  have hadd := add_bs Try.prog l (S.take n) (by simp; omega)
  have hn2 : n ≤ S.length := by omega
  have ht2 : y + n ≤ 64 := by omega
  have hTp : ((M.P k).type S).pend = l ++ S.take n := by
    simp only [Prt.type, hl, hy, hn]
    congr 1
    by_cases e : S.length ≤ 64 - y
    · rw [Nat.min_eq_left e, List.take_of_length_le e, List.take_of_length_le (Nat.le_refl _)]
    · rw [Nat.min_eq_right (by omega)]
  have hTt : ((M.P k).type S).typ = y + n := by simp only [Prt.type, hy, hn]
  have hw : IntKind.i64.wrap (64 - (y : Int)) = 64 - (y : Int) := by rw [IntKind.wrap_i64]; omega
  have hw2 : IntKind.i64.wrap ((y : Int) + (n : Int)) = (y : Int) + (n : Int) := by rw [IntKind.wrap_i64]; omega
  have hr1 := h.row.drew.set (3 + k) (.string (bs (l ++ S.take n)))
  have hr2 := hr1.drew
  have c7 := hr2.cell (i := 7 + k) (by omega)
  rw [if_neg (by omega), refF_typ p M hk, hy] at c7
  have f7' := hr2.frozen (7 + k)
  have hpost := h.to ((((Only.refl (fun i => i = b) w).drew.setCell (x := ⟨b, 3 + k, none⟩) rfl (.string (bs (l ++ S.take n)))).drew).setCell (x := ⟨b, 7 + k, none⟩) rfl (.int .i64 ((y : Int) + (n : Int)))) (M' := ⟨M.t, M.a, upd M.P k ((M.P k).type S), M.B⟩) ((hr2.set (7 + k) (.int .i64 ((y : Int) + (n : Int)))).congr fun j hj => by
    rw [refF_upd p M hk, hTp, hTt]
    by_cases e1 : j = 3 + k
    · rw [if_neg (by omega), if_pos e1, if_pos e1]
    · rw [if_neg e1, if_neg e1]
      by_cases e2 : j = 7 + k
      · rw [if_pos e2, if_pos e2]; simp
      · rw [if_neg e2, if_neg e2]
        by_cases e3 : j = 11 + k
        · rw [if_pos e3, e3, refF_out p M hk]; rfl
        · rw [if_neg e3]) rfl (h.ok.port ((h.ok.P k).type S))
  clear hn hr1 hr2 hTp hTt hl hy hS hp ht h
  go_enter Try.func18, Try.ntmps18
  go_wp2
  go_region
  go_wp2
  go_region
  go_wp2
  go_end0
  exact ⟨rfl, hpost⟩
set_option maxHeartbeats 1000000 in
theorem rtype_no (i : Int) (hi : ¬ (0 ≤ i ∧ i < 4)) (s : ByteArray) (w : World) :
    Calls Try.prog 18 #[.pointer (some ⟨b, 0, none⟩), .int .i64 i, .string s] w fun e w' => e = .returned (.tuple #[]) ∧ w' = w := by
  by_cases h0 : i < 0
  all_goals
    go_enter Try.func18, Try.ntmps18
    go_wp2
    (try simp only [Exit.inBlock, Exit.then]); refine bodyPost_ret (results_none rfl _ _ _) rfl ?_
    exact ⟨rfl, rfl⟩
theorem rtype_any (i : Int) (s : ByteArray) (hs : s.size ≤ 100) (h : RefBus w b p q M) :
    Calls Try.prog 18 #[.pointer (some ⟨b, 0, none⟩), .int .i64 i, .string s] w fun e w' => e = .returned (.tuple #[]) ∧ RefBus w' b p q (typN M i s.data.toList) ∧ Only (fun i => i = b ∨ i = q) w w' := by
  unfold typN
  by_cases hi : 0 ≤ i ∧ i < 4
  · rw [if_pos hi]
    obtain ⟨k, rfl⟩ := Int.eq_ofNat_of_zero_le hi.1
    rw [Int.toNat_natCast, ← bs_data s, bs_list]
    exact rtype_in k (by omega) s.data.toList (by simpa using hs) h
  · rw [if_neg hi]
    exact (rtype_no i hi s w).mono fun _ _ ⟨h1, h2⟩ => ⟨h1, h2 ▸ h, h2 ▸ Only.refl _ _⟩
end
end Go.Proofs.Ytpnlicklfemjeaa
