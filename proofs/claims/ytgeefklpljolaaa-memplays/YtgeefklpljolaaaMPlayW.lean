/-
  What statement MemPlays asks: every row of words written and read, bytes laid, by bytes beside it; walked for every row.
-/
import Derived.Test.YtgeefklpljolaaaMPlay
import Derived.Deep.CutRange
import Derived.Deep.CutBlock
import Derived.Deep.RegionHeld3
namespace Go.Proofs.Ytgeefklpljolaaa
open Go.RowKit
theorem five_new (w : World) (x : Stp) (t : TypeId) : FiveAt (w.alloc (.cells #[.int .i64 x.what, .int .i64 x.n, .int .u64 x.pl, .int .u64 x.v, .string x.b] t)) w.heap.size 0 x := by
  constructor <;> simp
theorem wrZ_no {B : Nat → Int} {a n v : Int} (h : ¬ codeI a n = 0) : wrZ B a n v = B := by unfold wrZ; rw [if_neg h]
theorem rdZ_no {B : Nat → Int} {a n : Int} (h : ¬ codeI a n = 0) : rdZ B a n = 0 := by unfold rdZ; rw [if_neg h]
theorem lay_agree (a : Int) (n : Nat) : (layC a n == 0) = fitsB a n := by unfold layC; cases fitsB a n <;> rfl
theorem lay_codes (a : Int) (n : Nat) : layC a n = 0 ∨ layC a n = 60 := by unfold layC; cases fitsB a n <;> simp
set_option maxRecDepth 100000 in
set_option maxHeartbeats 4000000 in
theorem mplay_short (L : List Stp) (hL : L.length ≤ 40) (f : Int) (hat : ∀ x ∈ L, U x.pl ∧ U x.v) (b o cap : Nat) (W : World) (hC : LiesS W b o L) :
    Calls Try.prog 3 #[.slice (some ⟨b, o, none⟩) L.length cap, .int .i64 f] W fun e w' => e = .returned (.bool true) ∧ Kept W w' := by
  have hl : ¬ (40 : Int) < (L.length : Int) := by omega
  go_enter Try.func3, Try.ntmps3
  go_wp2_with fail
  refine (known6_any _).mono ?_
  rintro e w1 ⟨rfl, k1⟩
  go_wp2_with fail
  refine (mnew_any _).mono ?_
  rintro e w2 ⟨pm, qm, rfl, m2, hpm, hqm, k2⟩
  go_wp2_with fail
  refine (rnew_any _).mono ?_
  rintro e w3 ⟨pr, qr, rfl, r3, hpr, hqr, k3⟩
  have t3 : Two W w3 pm qm pr qr (fun _ => 0) (fun _ => 0) := by
    have l := m2.lt
    exact ⟨m2.kept k3, r3, (k1.then k2).then k3, Nat.le_trans k1.size hqm, Nat.le_trans (k1.then k2).size hqr, by omega, by omega, by omega⟩
  clear k1 k2 k3 m2 r3 hpm hqm hpr hqr
  go_wp2
  go_loopw [7] (fun i wr => ∃ (k : Nat) (B : Nat → Int), k ≤ L.length ∧ i = .int .i64 (k : Int) ∧ Two W wr pm qm pr qr B B) (fun i _ => L.length - (intOf i).toNat)
  case atStart => exact ⟨0, _, Nat.zero_le _, rfl, t3⟩
  case round =>
    obtain ⟨k, B, hk, rfl, ht⟩ := hrel
    clear t3
    by_cases hlt : k < L.length
    · obtain ⟨x, hx⟩ : ∃ x, L[k]? = some x := ⟨_, List.getElem?_eq_getElem (by omega)⟩
      have hlt' : (k : Int) < (L.length : Int) := by omega
      have hk0 : (0 : Int) ≤ (k : Int) := by omega
      obtain ⟨ha, hv⟩ := hat x (List.mem_of_getElem? hx)
      obtain ⟨c0, c1, c2, c3, c4⟩ := (hC.kept ht.k) k x hx
      by_cases hbig : 300 < (x.b.size : Int)
      · go_wp2
        go_ret
        exact ⟨rfl, ht.k.alloc _⟩
      · have hbs : x.b.size < 9223372036854775808 := by omega
        have hlm := ht.m.lt
        have hlr := ht.r.lt
        have u0 : U 0 := by unfold U; omega
        have p0 := ha.1
        go_wp2_with fail
        refine (copy3 (ht.kept ((Only.refl _ wr).alloc _)) (five_new wr x _) (by omega) (by omega)).mono ?_
        rintro e w5 ⟨pc, qc, rfl, s5⟩
        obtain ⟨e0, e1, e2, e3, e4⟩ := s5.s
        clear ht hlm hlr c0 c1 c2 c3 c4 hC hat
        go_wp2_with fail
        refine (code3 s5 _ _ ha).mono ?_
        rintro e w6 ⟨rfl, s6⟩
        obtain ⟨f0, f1, f2, f3, f4⟩ := s6.s
        clear s5 e0 e1 e2 e3 e4
        have hfr : ∀ (C : Nat → Int) (g : Int), ((frameF C g).toList == (frameF C g).toList) = true := fun _ _ => beq_self_eq_true _
        have hcc : (codeI x.pl x.n == codeI x.pl x.n) = true := beq_self_eq_true _
        go_upto_block 2 with fail
        go_cut [10] from 22 to 155 (fun _ wc => ∃ B', Three W wc pm qm pr qr pc qc wr.heap.size x B' B' B)
        case first =>
          by_cases hw2 : x.what ≤ 2
          · go_wp2_with fail
            refine (mwrite3 s6 _ _ _ ha).mono ?_
            rintro e w7 ⟨rfl, s7⟩
            obtain ⟨g0, g1, g2, g3, g4⟩ := s7.s
            clear s6 f0 f1 f2 f3 f4
            by_cases hz : codeI x.pl x.n = 0
            · go_wp2_with fail
              refine (rwrite3 s7 _ _ _ ha hv hz).mono ?_
              rintro e w8 ⟨rfl, s8⟩
              go_wp2_with fail
              go_meet
              case rel => exact ⟨_, s8⟩
            · have hz' : (codeI x.pl x.n == 0) = false := beq_eq_false_iff_ne.2 hz
              rw [wrZ_no hz] at s7
              go_wp2_with fail
              go_meet
              case rel => exact ⟨_, s7⟩
          · by_cases hw4 : x.what ≤ 4
            · go_wp2_with fail
              refine (mread3 s6 _ _ ha).mono ?_
              rintro e w7 ⟨rfl, s7⟩
              obtain ⟨g0, g1, g2, g3, g4⟩ := s7.s
              clear s6 f0 f1 f2 f3 f4
              by_cases hz : codeI x.pl x.n = 0
              · have hrr : (rdZ B x.pl x.n == rdZ B x.pl x.n) = true := beq_self_eq_true _
                go_wp2_with fail
                refine (rread3 s7 _ _ ha hz).mono ?_
                rintro e w8 ⟨rfl, s8⟩
                go_wp2_with fail
                go_meet
                case rel => exact ⟨_, s8⟩
              · have hz' : (codeI x.pl x.n == 0) = false := beq_eq_false_iff_ne.2 hz
                have hr0 : rdZ B x.pl x.n = 0 := rdZ_no hz
                go_wp2_with fail
                go_meet
                case rel => exact ⟨_, s7⟩
            · cases hf : fitsB x.pl x.b.size
              · have hl6 : layC x.pl x.b.size = 60 := by unfold layC; rw [hf]; rfl
                go_wp2_with fail
                refine (mlay3 s6 _ ha _ hbs).mono ?_
                rintro e w7 ⟨rfl, s7⟩
                obtain ⟨g0, g1, g2, g3, g4⟩ := s7.s
                clear s6 f0 f1 f2 f3 f4
                go_wp2_with fail
                refine (rlay3 s7 _ ha _ hbs).mono ?_
                rintro e w8 ⟨rfl, s8⟩
                go_wp2_with fail
                go_meet
                case rel => exact ⟨_, s8⟩
              · have hl6 : layC x.pl x.b.size = 0 := by unfold layC; rw [hf]; rfl
                go_wp2_with fail
                refine (mlay3 s6 _ ha _ hbs).mono ?_
                rintro e w7 ⟨rfl, s7⟩
                obtain ⟨g0, g1, g2, g3, g4⟩ := s7.s
                clear s6 f0 f1 f2 f3 f4
                go_wp2_with fail
                refine (rlay3 s7 _ ha _ hbs).mono ?_
                rintro e w8 ⟨rfl, s8⟩
                go_wp2_with fail
                go_meet
                case rel => exact ⟨_, s8⟩
        case rest =>
          obtain ⟨B', s8⟩ := hcut
          go_wp2_with fail
          refine (cwrite3 s8 _ _ _ u0).mono ?_
          rintro e w9 ⟨rfl, s9⟩
          clear s8
          by_cases h9 : x.pl < 32768
          · go_wp2
            have hHeld0 := s9.kept ((Only.refl _ w9).drew)
            refine wp_region_held_drew (S := (fun w2 => Three W w2 pm qm pr qr pc qc wr.heap.size x B' B' (wrZ B 0 8 12345) ∧ w2.cell? ⟨wr.heap.size, 2, none⟩ = some (.int .u64 x.pl))) (by kernel_rfl) ⟨hHeld0, hHeld0.s.c2⟩ (fun hHeld => ?_)
            refine wpAnyH_take (i := 0) (v := ?_) rfl (by kernel_rfl) (by kernel_rfl) (by kernel_rfl) (fun _ _ _ h => h) (Or.inl ⟨by rfl, ?_⟩) hHeld ?_
            rotate_left
            · intro w hSw
              obtain ⟨hq', k2⟩ := hSw
              clear hq'
              go_simp
              all_goals rfl
            simp only [Act.put, List.getElem_toArray, List.getElem_cons_zero, List.setIfInBounds_toArray, List.set_cons_zero, List.set_cons_succ]
            refine wpAnyH_take (i := 1) (v := ?_) rfl (by kernel_rfl) (by kernel_rfl) (by kernel_rfl) (fun _ _ _ h => h) (Or.inl ⟨by rfl, ?_⟩) hHeld ?_
            rotate_left
            · intro w hSw
              obtain ⟨hq', k2⟩ := hSw
              clear hq'
              go_simp
              all_goals rfl
            simp only [Act.put, List.getElem_toArray, List.getElem_cons_zero, List.getElem_cons_succ, List.setIfInBounds_toArray, List.set_cons_zero, List.set_cons_succ]
            refine wpAnyH_take (i := 3) (v := ?_) rfl (by kernel_rfl) (by kernel_rfl) (by kernel_rfl) (fun _ _ _ h => h) (Or.inl ⟨by rfl, ?_⟩) hHeld ?_
            rotate_left
            · intro w hSw
              obtain ⟨hq', k2⟩ := hSw
              clear hq'
              go_simp
              all_goals rfl
            simp only [Act.put, List.getElem_toArray, List.getElem_cons_zero, List.getElem_cons_succ, List.setIfInBounds_toArray, List.set_cons_zero, List.set_cons_succ]
            refine wpAnyH_take (i := 4) (v := ?_) rfl (by kernel_rfl) (by kernel_rfl) (by kernel_rfl) (fun _ _ _ h => h) (Or.inl ⟨by rfl, ?_⟩) hHeld ?_
            rotate_left
            · intro w hSw
              obtain ⟨hq', k2⟩ := hSw
              clear hq'
              go_simp
              all_goals rfl
            simp only [Act.put, List.getElem_toArray, List.getElem_cons_zero, List.getElem_cons_succ, List.setIfInBounds_toArray, List.set_cons_zero, List.set_cons_succ]
            refine wpAnyH_ready (rs := [2]) (by kernel_rfl) (by simp) ?_
            refine AllReadyH.cons rfl (fun K hK => ?_) AllReadyH.nil
            obtain ⟨hS, k2⟩ := hHeld
            go_simp
            refine (mframe3 hS _).mono ?_
            rintro e w' ⟨rfl, hs⟩
            go_simp
            refine hK.out _ _ ⟨hs, hs.s.c2⟩ (fun hHeld => ?_)
            clear hK K k2 hS
            try simp only [Act.put, List.setIfInBounds_toArray, List.set_cons_zero, List.set_cons_succ]
            refine wpAnyH_ready (rs := [5]) (by kernel_rfl) (by simp) ?_
            refine AllReadyH.cons rfl (fun K hK => ?_) AllReadyH.nil
            obtain ⟨hS, k2⟩ := hHeld
            go_simp
            refine (rframe3 hS _).mono ?_
            rintro e w' ⟨rfl, hs⟩
            go_simp
            refine hK.out _ _ ⟨hs, hs.s.c2⟩ (fun hHeld => ?_)
            clear hK K k2 hS
            try simp only [Act.put, List.setIfInBounds_toArray, List.set_cons_zero, List.set_cons_succ]
            refine wpAnyH_take (i := 6) (v := ?_) rfl (by kernel_rfl) (by kernel_rfl) (by kernel_rfl) (fun _ _ _ h => h) (Or.inl ⟨by rfl, ?_⟩) hHeld ?_
            rotate_left
            · intro w hSw
              obtain ⟨hq', k2⟩ := hSw
              clear hq'
              go_simp
              all_goals rfl
            simp only [Act.put, List.getElem_toArray, List.getElem_cons_zero, List.getElem_cons_succ, List.setIfInBounds_toArray, List.set_cons_zero, List.set_cons_succ]
            refine wpAnyH_take (i := 7) (v := ?_) rfl (by kernel_rfl) (by kernel_rfl) (by kernel_rfl) (fun _ _ _ h => h) (Or.inl ⟨by rfl, ?_⟩) hHeld ?_
            rotate_left
            · intro w hSw
              obtain ⟨hq', k2⟩ := hSw
              clear hq'
              go_simp
              all_goals rfl
            simp only [Act.put, List.getElem_toArray, List.getElem_cons_zero, List.getElem_cons_succ, List.setIfInBounds_toArray, List.set_cons_zero, List.set_cons_succ]
            refine wpAnyH_take (i := 8) (v := ?_) rfl (by kernel_rfl) (by kernel_rfl) (by kernel_rfl) (fun _ _ _ h => h) (Or.inl ⟨by rfl, ?_⟩) hHeld ?_
            rotate_left
            · intro w hSw
              obtain ⟨hq', k2⟩ := hSw
              clear hq'
              go_simp
              all_goals rfl
            simp only [Act.put, List.getElem_toArray, List.getElem_cons_zero, List.getElem_cons_succ, List.setIfInBounds_toArray, List.set_cons_zero, List.set_cons_succ]
            refine wpAnyH_take (i := 9) (v := ?_) rfl (by kernel_rfl) (by kernel_rfl) (by kernel_rfl) (fun _ _ _ h => h) (Or.inl ⟨by rfl, ?_⟩) hHeld ?_
            rotate_left
            · intro w hSw
              obtain ⟨hq', k2⟩ := hSw
              clear hq'
              go_simp
              all_goals rfl
            simp only [Act.put, List.getElem_toArray, List.getElem_cons_zero, List.getElem_cons_succ, List.setIfInBounds_toArray, List.set_cons_zero, List.set_cons_succ]
            refine wpAnyH_take (i := 10) (v := ?_) rfl (by kernel_rfl) (by kernel_rfl) (by kernel_rfl) (fun _ _ _ h => h) (Or.inl ⟨by rfl, ?_⟩) hHeld ?_
            rotate_left
            · intro w hSw
              obtain ⟨hq', k2⟩ := hSw
              clear hq'
              go_simp
              all_goals rfl
            simp only [Act.put, List.getElem_toArray, List.getElem_cons_zero, List.getElem_cons_succ, List.setIfInBounds_toArray, List.set_cons_zero, List.set_cons_succ]
            refine wpAnyH_take (i := 11) (v := ?_) rfl (by kernel_rfl) (by kernel_rfl) (by kernel_rfl) (fun _ _ _ h => h) (Or.inl ⟨by rfl, ?_⟩) hHeld ?_
            rotate_left
            · intro w hSw
              obtain ⟨hq', k2⟩ := hSw
              clear hq'
              go_simp
              all_goals rfl
            simp only [Act.put, List.getElem_toArray, List.getElem_cons_zero, List.getElem_cons_succ, List.setIfInBounds_toArray, List.set_cons_zero, List.set_cons_succ]
            refine wpAnyH_take (i := 12) (v := ?_) rfl (by kernel_rfl) (by kernel_rfl) (by kernel_rfl) (fun _ _ _ h => h) (Or.inl ⟨by rfl, ?_⟩) hHeld ?_
            rotate_left
            · intro w hSw
              obtain ⟨hq', k2⟩ := hSw
              clear hq'
              go_simp
              all_goals rfl
            simp only [Act.put, List.getElem_toArray, List.getElem_cons_zero, List.getElem_cons_succ, List.setIfInBounds_toArray, List.set_cons_zero, List.set_cons_succ]
            refine wpAnyH_take (i := 13) (v := ?_) rfl (by kernel_rfl) (by kernel_rfl) (by kernel_rfl) (fun _ _ _ h => h) (Or.inl ⟨by rfl, ?_⟩) hHeld ?_
            rotate_left
            · intro w hSw
              obtain ⟨hq', k2⟩ := hSw
              clear hq'
              go_simp
              all_goals rfl
            simp only [Act.put, List.getElem_toArray, List.getElem_cons_zero, List.getElem_cons_succ, List.setIfInBounds_toArray, List.set_cons_zero, List.set_cons_succ]
            refine wpAnyH_take (i := 14) (v := ?_) rfl (by kernel_rfl) (by kernel_rfl) (by kernel_rfl) (fun _ _ _ h => h) (Or.inl ⟨by rfl, ?_⟩) hHeld ?_
            rotate_left
            · intro w hSw
              obtain ⟨hq', k2⟩ := hSw
              clear hq'
              go_simp
              all_goals rfl
            simp only [Act.put, List.getElem_toArray, List.getElem_cons_zero, List.getElem_cons_succ, List.setIfInBounds_toArray, List.set_cons_zero, List.set_cons_succ]
            refine wpAnyH_take (i := 15) (v := ?_) rfl (by kernel_rfl) (by kernel_rfl) (by kernel_rfl) (fun _ _ _ h => h) (Or.inl ⟨by rfl, ?_⟩) hHeld ?_
            rotate_left
            · intro w hSw
              obtain ⟨hq', k2⟩ := hSw
              clear hq'
              go_simp
              all_goals rfl
            simp only [Act.put, List.getElem_toArray, List.getElem_cons_zero, List.getElem_cons_succ, List.setIfInBounds_toArray, List.set_cons_zero, List.set_cons_succ]
            refine wpAnyH_take (i := 16) (v := ?_) rfl (by kernel_rfl) (by kernel_rfl) (by kernel_rfl) (fun _ _ _ h => h) (Or.inl ⟨by rfl, ?_⟩) hHeld ?_
            rotate_left
            · intro w hSw
              obtain ⟨hq', k2⟩ := hSw
              clear hq'
              go_simp
              all_goals rfl
            simp only [Act.put, List.getElem_toArray, List.getElem_cons_zero, List.getElem_cons_succ, List.setIfInBounds_toArray, List.set_cons_zero, List.set_cons_succ]
            refine wpAnyH_take (i := 18) (v := ?_) rfl (by kernel_rfl) (by kernel_rfl) (by kernel_rfl) (fun _ _ _ h => h) (Or.inl ⟨by rfl, ?_⟩) hHeld ?_
            rotate_left
            · intro w hSw
              obtain ⟨hq', k2⟩ := hSw
              clear hq'
              go_simp
              all_goals rfl
            simp only [Act.put, List.getElem_toArray, List.getElem_cons_zero, List.getElem_cons_succ, List.setIfInBounds_toArray, List.set_cons_zero, List.set_cons_succ]
            refine wpAnyH_take (i := 19) (v := ?_) rfl (by kernel_rfl) (by kernel_rfl) (by kernel_rfl) (fun _ _ _ h => h) (Or.inl ⟨by rfl, ?_⟩) hHeld ?_
            rotate_left
            · intro w hSw
              obtain ⟨hq', k2⟩ := hSw
              clear hq'
              go_simp
              all_goals rfl
            simp only [Act.put, List.getElem_toArray, List.getElem_cons_zero, List.getElem_cons_succ, List.setIfInBounds_toArray, List.set_cons_zero, List.set_cons_succ]
            refine wpAnyH_take (i := 20) (v := ?_) rfl (by kernel_rfl) (by kernel_rfl) (by kernel_rfl) (fun _ _ _ h => h) (Or.inl ⟨by rfl, ?_⟩) hHeld ?_
            rotate_left
            · intro w hSw
              obtain ⟨hq', k2⟩ := hSw
              clear hq'
              go_simp
              all_goals rfl
            simp only [Act.put, List.getElem_toArray, List.getElem_cons_zero, List.getElem_cons_succ, List.setIfInBounds_toArray, List.set_cons_zero, List.set_cons_succ]
            refine wpAnyH_take (i := 21) (v := ?_) rfl (by kernel_rfl) (by kernel_rfl) (by kernel_rfl) (fun _ _ _ h => h) (Or.inl ⟨by rfl, ?_⟩) hHeld ?_
            rotate_left
            · intro w hSw
              obtain ⟨hq', k2⟩ := hSw
              clear hq'
              go_simp
              all_goals rfl
            simp only [Act.put, List.getElem_toArray, List.getElem_cons_zero, List.getElem_cons_succ, List.setIfInBounds_toArray, List.set_cons_zero, List.set_cons_succ]
            refine wpAnyH_take (i := 22) (v := ?_) rfl (by kernel_rfl) (by kernel_rfl) (by kernel_rfl) (fun _ _ _ h => h) (Or.inl ⟨by rfl, ?_⟩) hHeld ?_
            rotate_left
            · intro w hSw
              obtain ⟨hq', k2⟩ := hSw
              clear hq'
              go_simp
              all_goals rfl
            simp only [Act.put, List.getElem_toArray, List.getElem_cons_zero, List.getElem_cons_succ, List.setIfInBounds_toArray, List.set_cons_zero, List.set_cons_succ]
            refine wpAnyH_ready (rs := [17]) (by kernel_rfl) (by simp) ?_
            refine AllReadyH.cons rfl (fun K hK => ?_) AllReadyH.nil
            obtain ⟨hS, k2⟩ := hHeld
            go_simp
            refine (mframe3 hS _).mono ?_
            rintro e w' ⟨rfl, hs⟩
            go_simp
            refine hK.out _ _ ⟨hs, hs.s.c2⟩ (fun hHeld => ?_)
            clear hK K k2 hS
            try simp only [Act.put, List.setIfInBounds_toArray, List.set_cons_zero, List.set_cons_succ]
            refine wpAnyH_ready (rs := [23]) (by kernel_rfl) (by simp) ?_
            refine AllReadyH.cons rfl (fun K hK => ?_) AllReadyH.nil
            obtain ⟨hS, k2⟩ := hHeld
            go_simp
            refine (rframe3 hS _).mono ?_
            rintro e w' ⟨rfl, hs⟩
            go_simp
            refine hK.out _ _ ⟨hs, hs.s.c2⟩ (fun hHeld => ?_)
            clear hK K k2 hS
            try simp only [Act.put, List.setIfInBounds_toArray, List.set_cons_zero, List.set_cons_succ]
            refine wpAnyH_take (i := 24) (v := ?_) rfl (by kernel_rfl) (by kernel_rfl) (by kernel_rfl) (fun _ _ _ h => h) (Or.inl ⟨by rfl, ?_⟩) hHeld ?_
            rotate_left
            · intro w hSw
              obtain ⟨hq', k2⟩ := hSw
              clear hq'
              go_simp
              all_goals rfl
            simp only [Act.put, List.getElem_toArray, List.getElem_cons_zero, List.getElem_cons_succ, List.setIfInBounds_toArray, List.set_cons_zero, List.set_cons_succ]
            refine wpAnyH_take (i := 25) (v := ?_) rfl (by kernel_rfl) (by kernel_rfl) (by kernel_rfl) (fun _ _ _ h => h) (Or.inl ⟨by rfl, ?_⟩) hHeld ?_
            rotate_left
            · intro w hSw
              obtain ⟨hq', k2⟩ := hSw
              clear hq'
              go_simp
              all_goals rfl
            simp only [Act.put, List.getElem_toArray, List.getElem_cons_zero, List.getElem_cons_succ, List.setIfInBounds_toArray, List.set_cons_zero, List.set_cons_succ]
            refine wpAnyH_take (i := 26) (v := ?_) rfl (by kernel_rfl) (by kernel_rfl) (by kernel_rfl) (fun _ _ _ h => h) (Or.inl ⟨by rfl, ?_⟩) hHeld ?_
            rotate_left
            · intro w hSw
              obtain ⟨hq', k2⟩ := hSw
              clear hq'
              go_simp
              all_goals rfl
            simp only [Act.put, List.getElem_toArray, List.getElem_cons_zero, List.getElem_cons_succ, List.setIfInBounds_toArray, List.set_cons_zero, List.set_cons_succ]
            refine wpAnyH_take (i := 27) (v := ?_) rfl (by kernel_rfl) (by kernel_rfl) (by kernel_rfl) (fun _ _ _ h => h) (Or.inl ⟨by rfl, ?_⟩) hHeld ?_
            rotate_left
            · intro w hSw
              obtain ⟨hq', k2⟩ := hSw
              clear hq'
              go_simp
              all_goals rfl
            simp only [Act.put, List.getElem_toArray, List.getElem_cons_zero, List.getElem_cons_succ, List.setIfInBounds_toArray, List.set_cons_zero, List.set_cons_succ]
            refine wpAnyH_take (i := 28) (v := ?_) rfl (by kernel_rfl) (by kernel_rfl) (by kernel_rfl) (fun _ _ _ h => h) (Or.inl ⟨by rfl, ?_⟩) hHeld ?_
            rotate_left
            · intro w hSw
              obtain ⟨hq', k2⟩ := hSw
              clear hq'
              go_simp
              all_goals rfl
            simp only [Act.put, List.getElem_toArray, List.getElem_cons_zero, List.getElem_cons_succ, List.setIfInBounds_toArray, List.set_cons_zero, List.set_cons_succ]
            refine wpAnyH_take (i := 30) (v := ?_) rfl (by kernel_rfl) (by kernel_rfl) (by kernel_rfl) (fun _ _ _ h => h) (Or.inl ⟨by rfl, ?_⟩) hHeld ?_
            rotate_left
            · intro w hSw
              obtain ⟨hq', k2⟩ := hSw
              clear hq'
              go_simp
              all_goals rfl
            simp only [Act.put, List.getElem_toArray, List.getElem_cons_zero, List.getElem_cons_succ, List.setIfInBounds_toArray, List.set_cons_zero, List.set_cons_succ]
            refine wpAnyH_ready (rs := [29]) (by kernel_rfl) (by simp) ?_
            refine AllReadyH.cons rfl (fun K hK => ?_) AllReadyH.nil
            obtain ⟨hS, k2⟩ := hHeld
            go_simp
            refine (mframe3 hS _).mono ?_
            rintro e w' ⟨rfl, hs⟩
            go_simp
            refine hK.out _ _ ⟨hs, hs.s.c2⟩ (fun hHeld => ?_)
            clear hK K k2 hS
            try simp only [Act.put, List.setIfInBounds_toArray, List.set_cons_zero, List.set_cons_succ]
            refine wpAnyH_ready (rs := [31]) (by kernel_rfl) (by simp) ?_
            refine AllReadyH.cons rfl (fun K hK => ?_) AllReadyH.nil
            obtain ⟨hS, k2⟩ := hHeld
            go_simp
            refine (rframe3 hS _).mono ?_
            rintro e w' ⟨rfl, hs⟩
            go_simp
            refine hK.out _ _ ⟨hs, hs.s.c2⟩ (fun hHeld => ?_)
            clear hK K k2 hS
            try simp only [Act.put, List.setIfInBounds_toArray, List.set_cons_zero, List.set_cons_succ]
            refine wpAnyH_take (i := 32) (v := ?_) rfl (by kernel_rfl) (by kernel_rfl) (by kernel_rfl) (fun _ _ _ h => h) (Or.inl ⟨by rfl, ?_⟩) hHeld ?_
            rotate_left
            · intro w hSw
              obtain ⟨hq', k2⟩ := hSw
              clear hq'
              go_simp
              all_goals rfl
            simp only [Act.put, List.getElem_toArray, List.getElem_cons_zero, List.getElem_cons_succ, List.setIfInBounds_toArray, List.set_cons_zero, List.set_cons_succ]
            refine wpAnyH_take (i := 33) (v := ?_) rfl (by kernel_rfl) (by kernel_rfl) (by kernel_rfl) (fun _ _ _ h => h) (Or.inl ⟨by rfl, ?_⟩) hHeld ?_
            rotate_left
            · intro w hSw
              obtain ⟨hq', k2⟩ := hSw
              clear hq'
              go_simp
              all_goals rfl
            simp only [Act.put, List.getElem_toArray, List.getElem_cons_zero, List.getElem_cons_succ, List.setIfInBounds_toArray, List.set_cons_zero, List.set_cons_succ]
            refine wpAnyH_done (by kernel_rfl) ?_ _
            go_wp2
            go_roundw
            case rel => exact ⟨k + 1, B', by omega, by go_num, hHeld.1.t⟩
            case measure => simp [intOf]; omega
          · have h9' : decide (x.pl < 32768) = false := decide_eq_false h9
            go_wp2
            have hHeld0 := s9.kept ((Only.refl _ w9).drew)
            refine wp_region_held_drew (S := (fun w2 => Three W w2 pm qm pr qr pc qc wr.heap.size x B' B' (wrZ B 0 8 12345) ∧ w2.cell? ⟨wr.heap.size, 2, none⟩ = some (.int .u64 x.pl))) (by kernel_rfl) ⟨hHeld0, hHeld0.s.c2⟩ (fun hHeld => ?_)
            refine wpAnyH_take (i := 0) (v := ?_) rfl (by kernel_rfl) (by kernel_rfl) (by kernel_rfl) (fun _ _ _ h => h) (Or.inl ⟨by rfl, ?_⟩) hHeld ?_
            rotate_left
            · intro w hSw
              obtain ⟨hq', k2⟩ := hSw
              clear hq'
              go_simp
              all_goals rfl
            simp only [Act.put, List.getElem_toArray, List.getElem_cons_zero, List.setIfInBounds_toArray, List.set_cons_zero, List.set_cons_succ]
            refine wpAnyH_take (i := 1) (v := ?_) rfl (by kernel_rfl) (by kernel_rfl) (by kernel_rfl) (fun _ _ _ h => h) (Or.inl ⟨by rfl, ?_⟩) hHeld ?_
            rotate_left
            · intro w hSw
              obtain ⟨hq', k2⟩ := hSw
              clear hq'
              go_simp
              all_goals rfl
            simp only [Act.put, List.getElem_toArray, List.getElem_cons_zero, List.getElem_cons_succ, List.setIfInBounds_toArray, List.set_cons_zero, List.set_cons_succ]
            refine wpAnyH_take (i := 3) (v := ?_) rfl (by kernel_rfl) (by kernel_rfl) (by kernel_rfl) (fun _ _ _ h => h) (Or.inl ⟨by rfl, ?_⟩) hHeld ?_
            rotate_left
            · intro w hSw
              obtain ⟨hq', k2⟩ := hSw
              clear hq'
              go_simp
              all_goals rfl
            simp only [Act.put, List.getElem_toArray, List.getElem_cons_zero, List.getElem_cons_succ, List.setIfInBounds_toArray, List.set_cons_zero, List.set_cons_succ]
            refine wpAnyH_take (i := 4) (v := ?_) rfl (by kernel_rfl) (by kernel_rfl) (by kernel_rfl) (fun _ _ _ h => h) (Or.inl ⟨by rfl, ?_⟩) hHeld ?_
            rotate_left
            · intro w hSw
              obtain ⟨hq', k2⟩ := hSw
              clear hq'
              go_simp
              all_goals rfl
            simp only [Act.put, List.getElem_toArray, List.getElem_cons_zero, List.getElem_cons_succ, List.setIfInBounds_toArray, List.set_cons_zero, List.set_cons_succ]
            refine wpAnyH_ready (rs := [2]) (by kernel_rfl) (by simp) ?_
            refine AllReadyH.cons rfl (fun K hK => ?_) AllReadyH.nil
            obtain ⟨hS, k2⟩ := hHeld
            go_simp
            refine (mframe3 hS _).mono ?_
            rintro e w' ⟨rfl, hs⟩
            go_simp
            refine hK.out _ _ ⟨hs, hs.s.c2⟩ (fun hHeld => ?_)
            clear hK K k2 hS
            try simp only [Act.put, List.setIfInBounds_toArray, List.set_cons_zero, List.set_cons_succ]
            refine wpAnyH_ready (rs := [5]) (by kernel_rfl) (by simp) ?_
            refine AllReadyH.cons rfl (fun K hK => ?_) AllReadyH.nil
            obtain ⟨hS, k2⟩ := hHeld
            go_simp
            refine (rframe3 hS _).mono ?_
            rintro e w' ⟨rfl, hs⟩
            go_simp
            refine hK.out _ _ ⟨hs, hs.s.c2⟩ (fun hHeld => ?_)
            clear hK K k2 hS
            try simp only [Act.put, List.setIfInBounds_toArray, List.set_cons_zero, List.set_cons_succ]
            refine wpAnyH_take (i := 6) (v := ?_) rfl (by kernel_rfl) (by kernel_rfl) (by kernel_rfl) (fun _ _ _ h => h) (Or.inl ⟨by rfl, ?_⟩) hHeld ?_
            rotate_left
            · intro w hSw
              obtain ⟨hq', k2⟩ := hSw
              clear hq'
              go_simp
              all_goals rfl
            simp only [Act.put, List.getElem_toArray, List.getElem_cons_zero, List.getElem_cons_succ, List.setIfInBounds_toArray, List.set_cons_zero, List.set_cons_succ]
            refine wpAnyH_take (i := 7) (v := ?_) rfl (by kernel_rfl) (by kernel_rfl) (by kernel_rfl) (fun _ _ _ h => h) (Or.inl ⟨by rfl, ?_⟩) hHeld ?_
            rotate_left
            · intro w hSw
              obtain ⟨hq', k2⟩ := hSw
              clear hq'
              go_simp
              all_goals rfl
            simp only [Act.put, List.getElem_toArray, List.getElem_cons_zero, List.getElem_cons_succ, List.setIfInBounds_toArray, List.set_cons_zero, List.set_cons_succ]
            refine wpAnyH_take (i := 8) (v := ?_) rfl (by kernel_rfl) (by kernel_rfl) (by kernel_rfl) (fun _ _ _ h => h) (Or.inl ⟨by rfl, ?_⟩) hHeld ?_
            rotate_left
            · intro w hSw
              obtain ⟨hq', k2⟩ := hSw
              clear hq'
              go_simp
              all_goals rfl
            simp only [Act.put, List.getElem_toArray, List.getElem_cons_zero, List.getElem_cons_succ, List.setIfInBounds_toArray, List.set_cons_zero, List.set_cons_succ]
            refine wpAnyH_take (i := 9) (v := ?_) rfl (by kernel_rfl) (by kernel_rfl) (by kernel_rfl) (fun _ _ _ h => h) (Or.inl ⟨by rfl, ?_⟩) hHeld ?_
            rotate_left
            · intro w hSw
              obtain ⟨hq', k2⟩ := hSw
              clear hq'
              go_simp
              all_goals rfl
            simp only [Act.put, List.getElem_toArray, List.getElem_cons_zero, List.getElem_cons_succ, List.setIfInBounds_toArray, List.set_cons_zero, List.set_cons_succ]
            refine wpAnyH_take (i := 10) (v := ?_) rfl (by kernel_rfl) (by kernel_rfl) (by kernel_rfl) (fun _ _ _ h => h) (Or.inl ⟨by rfl, ?_⟩) hHeld ?_
            rotate_left
            · intro w hSw
              obtain ⟨hq', k2⟩ := hSw
              clear hq'
              go_simp
              all_goals rfl
            simp only [Act.put, List.getElem_toArray, List.getElem_cons_zero, List.getElem_cons_succ, List.setIfInBounds_toArray, List.set_cons_zero, List.set_cons_succ]
            refine wpAnyH_take (i := 11) (v := ?_) rfl (by kernel_rfl) (by kernel_rfl) (by kernel_rfl) (fun _ _ _ h => h) (Or.inl ⟨by rfl, ?_⟩) hHeld ?_
            rotate_left
            · intro w hSw
              obtain ⟨hq', k2⟩ := hSw
              clear hq'
              go_simp
              all_goals rfl
            simp only [Act.put, List.getElem_toArray, List.getElem_cons_zero, List.getElem_cons_succ, List.setIfInBounds_toArray, List.set_cons_zero, List.set_cons_succ]
            refine wpAnyH_take (i := 12) rfl (by kernel_rfl) (by kernel_rfl) (by kernel_rfl) (fun _ _ _ h => h) (Or.inr ⟨by rfl, rfl⟩) hHeld ?_
            simp only [Act.put, List.getElem_toArray, List.getElem_cons_zero, List.getElem_cons_succ, List.setIfInBounds_toArray, List.set_cons_zero, List.set_cons_succ]
            refine wpAnyH_take (i := 13) rfl (by kernel_rfl) (by kernel_rfl) (by kernel_rfl) (fun _ _ _ h => h) (Or.inr ⟨by rfl, rfl⟩) hHeld ?_
            simp only [Act.put, List.getElem_toArray, List.getElem_cons_zero, List.getElem_cons_succ, List.setIfInBounds_toArray, List.set_cons_zero, List.set_cons_succ]
            refine wpAnyH_take (i := 14) rfl (by kernel_rfl) (by kernel_rfl) (by kernel_rfl) (fun _ _ _ h => h) (Or.inr ⟨by rfl, rfl⟩) hHeld ?_
            simp only [Act.put, List.getElem_toArray, List.getElem_cons_zero, List.getElem_cons_succ, List.setIfInBounds_toArray, List.set_cons_zero, List.set_cons_succ]
            refine wpAnyH_take (i := 15) rfl (by kernel_rfl) (by kernel_rfl) (by kernel_rfl) (fun _ _ _ h => h) (Or.inr ⟨by rfl, rfl⟩) hHeld ?_
            simp only [Act.put, List.getElem_toArray, List.getElem_cons_zero, List.getElem_cons_succ, List.setIfInBounds_toArray, List.set_cons_zero, List.set_cons_succ]
            refine wpAnyH_take (i := 16) rfl (by kernel_rfl) (by kernel_rfl) (by kernel_rfl) (fun _ _ _ h => h) (Or.inr ⟨by rfl, rfl⟩) hHeld ?_
            simp only [Act.put, List.getElem_toArray, List.getElem_cons_zero, List.getElem_cons_succ, List.setIfInBounds_toArray, List.set_cons_zero, List.set_cons_succ]
            refine wpAnyH_take (i := 17) rfl (by kernel_rfl) (by kernel_rfl) (by kernel_rfl) (fun _ _ _ h => h) (Or.inr ⟨by rfl, rfl⟩) hHeld ?_
            simp only [Act.put, List.getElem_toArray, List.getElem_cons_zero, List.getElem_cons_succ, List.setIfInBounds_toArray, List.set_cons_zero, List.set_cons_succ]
            refine wpAnyH_take (i := 18) rfl (by kernel_rfl) (by kernel_rfl) (by kernel_rfl) (fun _ _ _ h => h) (Or.inr ⟨by rfl, rfl⟩) hHeld ?_
            simp only [Act.put, List.getElem_toArray, List.getElem_cons_zero, List.getElem_cons_succ, List.setIfInBounds_toArray, List.set_cons_zero, List.set_cons_succ]
            refine wpAnyH_take (i := 19) rfl (by kernel_rfl) (by kernel_rfl) (by kernel_rfl) (fun _ _ _ h => h) (Or.inr ⟨by rfl, rfl⟩) hHeld ?_
            simp only [Act.put, List.getElem_toArray, List.getElem_cons_zero, List.getElem_cons_succ, List.setIfInBounds_toArray, List.set_cons_zero, List.set_cons_succ]
            refine wpAnyH_take (i := 20) rfl (by kernel_rfl) (by kernel_rfl) (by kernel_rfl) (fun _ _ _ h => h) (Or.inr ⟨by rfl, rfl⟩) hHeld ?_
            simp only [Act.put, List.getElem_toArray, List.getElem_cons_zero, List.getElem_cons_succ, List.setIfInBounds_toArray, List.set_cons_zero, List.set_cons_succ]
            refine wpAnyH_take (i := 21) rfl (by kernel_rfl) (by kernel_rfl) (by kernel_rfl) (fun _ _ _ h => h) (Or.inr ⟨by rfl, rfl⟩) hHeld ?_
            simp only [Act.put, List.getElem_toArray, List.getElem_cons_zero, List.getElem_cons_succ, List.setIfInBounds_toArray, List.set_cons_zero, List.set_cons_succ]
            refine wpAnyH_take (i := 22) rfl (by kernel_rfl) (by kernel_rfl) (by kernel_rfl) (fun _ _ _ h => h) (Or.inr ⟨by rfl, rfl⟩) hHeld ?_
            simp only [Act.put, List.getElem_toArray, List.getElem_cons_zero, List.getElem_cons_succ, List.setIfInBounds_toArray, List.set_cons_zero, List.set_cons_succ]
            refine wpAnyH_take (i := 23) rfl (by kernel_rfl) (by kernel_rfl) (by kernel_rfl) (fun _ _ _ h => h) (Or.inr ⟨by rfl, rfl⟩) hHeld ?_
            simp only [Act.put, List.getElem_toArray, List.getElem_cons_zero, List.getElem_cons_succ, List.setIfInBounds_toArray, List.set_cons_zero, List.set_cons_succ]
            refine wpAnyH_take (i := 24) rfl (by kernel_rfl) (by kernel_rfl) (by kernel_rfl) (fun _ _ _ h => h) (Or.inr ⟨by rfl, rfl⟩) hHeld ?_
            simp only [Act.put, List.getElem_toArray, List.getElem_cons_zero, List.getElem_cons_succ, List.setIfInBounds_toArray, List.set_cons_zero, List.set_cons_succ]
            refine wpAnyH_take (i := 25) (v := ?_) rfl (by kernel_rfl) (by kernel_rfl) (by kernel_rfl) (fun _ _ _ h => h) (Or.inl ⟨by rfl, ?_⟩) hHeld ?_
            rotate_left
            · intro w hSw
              obtain ⟨hq', k2⟩ := hSw
              clear hq'
              go_simp
              all_goals rfl
            simp only [Act.put, List.getElem_toArray, List.getElem_cons_zero, List.getElem_cons_succ, List.setIfInBounds_toArray, List.set_cons_zero, List.set_cons_succ]
            refine wpAnyH_take (i := 26) (v := ?_) rfl (by kernel_rfl) (by kernel_rfl) (by kernel_rfl) (fun _ _ _ h => h) (Or.inl ⟨by rfl, ?_⟩) hHeld ?_
            rotate_left
            · intro w hSw
              obtain ⟨hq', k2⟩ := hSw
              clear hq'
              go_simp
              all_goals rfl
            simp only [Act.put, List.getElem_toArray, List.getElem_cons_zero, List.getElem_cons_succ, List.setIfInBounds_toArray, List.set_cons_zero, List.set_cons_succ]
            refine wpAnyH_take (i := 27) (v := ?_) rfl (by kernel_rfl) (by kernel_rfl) (by kernel_rfl) (fun _ _ _ h => h) (Or.inl ⟨by rfl, ?_⟩) hHeld ?_
            rotate_left
            · intro w hSw
              obtain ⟨hq', k2⟩ := hSw
              clear hq'
              go_simp
              all_goals rfl
            simp only [Act.put, List.getElem_toArray, List.getElem_cons_zero, List.getElem_cons_succ, List.setIfInBounds_toArray, List.set_cons_zero, List.set_cons_succ]
            refine wpAnyH_take (i := 28) (v := ?_) rfl (by kernel_rfl) (by kernel_rfl) (by kernel_rfl) (fun _ _ _ h => h) (Or.inl ⟨by rfl, ?_⟩) hHeld ?_
            rotate_left
            · intro w hSw
              obtain ⟨hq', k2⟩ := hSw
              clear hq'
              go_simp
              all_goals rfl
            simp only [Act.put, List.getElem_toArray, List.getElem_cons_zero, List.getElem_cons_succ, List.setIfInBounds_toArray, List.set_cons_zero, List.set_cons_succ]
            refine wpAnyH_take (i := 30) (v := ?_) rfl (by kernel_rfl) (by kernel_rfl) (by kernel_rfl) (fun _ _ _ h => h) (Or.inl ⟨by rfl, ?_⟩) hHeld ?_
            rotate_left
            · intro w hSw
              obtain ⟨hq', k2⟩ := hSw
              clear hq'
              go_simp
              all_goals rfl
            simp only [Act.put, List.getElem_toArray, List.getElem_cons_zero, List.getElem_cons_succ, List.setIfInBounds_toArray, List.set_cons_zero, List.set_cons_succ]
            refine wpAnyH_ready (rs := [29]) (by kernel_rfl) (by simp) ?_
            refine AllReadyH.cons rfl (fun K hK => ?_) AllReadyH.nil
            obtain ⟨hS, k2⟩ := hHeld
            go_simp
            refine (mframe3 hS _).mono ?_
            rintro e w' ⟨rfl, hs⟩
            go_simp
            refine hK.out _ _ ⟨hs, hs.s.c2⟩ (fun hHeld => ?_)
            clear hK K k2 hS
            try simp only [Act.put, List.setIfInBounds_toArray, List.set_cons_zero, List.set_cons_succ]
            refine wpAnyH_ready (rs := [31]) (by kernel_rfl) (by simp) ?_
            refine AllReadyH.cons rfl (fun K hK => ?_) AllReadyH.nil
            obtain ⟨hS, k2⟩ := hHeld
            go_simp
            refine (rframe3 hS _).mono ?_
            rintro e w' ⟨rfl, hs⟩
            go_simp
            refine hK.out _ _ ⟨hs, hs.s.c2⟩ (fun hHeld => ?_)
            clear hK K k2 hS
            try simp only [Act.put, List.setIfInBounds_toArray, List.set_cons_zero, List.set_cons_succ]
            refine wpAnyH_take (i := 32) (v := ?_) rfl (by kernel_rfl) (by kernel_rfl) (by kernel_rfl) (fun _ _ _ h => h) (Or.inl ⟨by rfl, ?_⟩) hHeld ?_
            rotate_left
            · intro w hSw
              obtain ⟨hq', k2⟩ := hSw
              clear hq'
              go_simp
              all_goals rfl
            simp only [Act.put, List.getElem_toArray, List.getElem_cons_zero, List.getElem_cons_succ, List.setIfInBounds_toArray, List.set_cons_zero, List.set_cons_succ]
            refine wpAnyH_take (i := 33) (v := ?_) rfl (by kernel_rfl) (by kernel_rfl) (by kernel_rfl) (fun _ _ _ h => h) (Or.inl ⟨by rfl, ?_⟩) hHeld ?_
            rotate_left
            · intro w hSw
              obtain ⟨hq', k2⟩ := hSw
              clear hq'
              go_simp
              all_goals rfl
            simp only [Act.put, List.getElem_toArray, List.getElem_cons_zero, List.getElem_cons_succ, List.setIfInBounds_toArray, List.set_cons_zero, List.set_cons_succ]
            refine wpAnyH_done (by kernel_rfl) ?_ _
            go_wp2
            go_roundw
            case rel => exact ⟨k + 1, B', by omega, by go_num, hHeld.1.t⟩
            case measure => simp [intOf]; omega
    · have hlt' : ¬ (k : Int) < (L.length : Int) := by omega
      have hsm : sameM B B = true := same_yes fun _ _ => rfl
      go_wp2_with fail
      refine (mcopy_any wr pm qm B ht.m).mono ?_
      rintro e w5 ⟨pc, qc, rfl, hc, h1, h2, hk5⟩
      go_wp2_with fail
      refine (msame_any w5 pm qm pc qc B B (ht.m.kept hk5) hc).mono ?_
      rintro e w6 ⟨rfl, hk6⟩
      go_wp2
      go_ret
      exact ⟨rfl, (ht.k.then hk5).then hk6⟩
end Go.Proofs.Ytgeefklpljolaaa
