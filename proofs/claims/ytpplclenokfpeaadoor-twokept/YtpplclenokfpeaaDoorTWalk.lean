/-
  What package walk's calls answer, in the document's words: walked whole, for every argument.
-/
import Derived.Test.YtpplclenokfpeaaDoorWkMem
import Derived.Test.YtpplclenokfpeaaDoorTPteR
import Derived.WalkMore
namespace Go.Proofs.YtpplclenokfpeaaDoor
open Go.RowKit
section
variable {w : World} {p q : Nat} {B : Nat → Int}
theorem isframe_any (f : Int) :
    Calls Tryd.prog 69 #[.int .i64 f] w fun e w' => e = .returned (.bool (decide (0 ≤ f ∧ f < 128))) ∧ w' = w := by
  by_cases h0 : 0 ≤ f <;> by_cases h1 : f < 128
  all_goals
    go_enter Tryd.func69, Tryd.ntmps69
    go_wp2_with fail
    all_goals
      go_ret
      exact ⟨by simp [h0, h1], rfl⟩
theorem place_any (f i : Int) (h : entO f i = true) :
    Calls Tryd.prog 71 #[.int .i64 f, .int .i64 i] w fun e w' => e = .returned (.int .u64 (f * 256 + 8 * i)) ∧ w' = w := by
  have hh := of_decide_eq_true h
  obtain ⟨h0, h1, h2, h3⟩ := hh
  clear h
  go_enter Tryd.func71, Tryd.ntmps71
  go_wp2_with fail
  go_ret
  rw [Int.mul_comm 8 i]
  exact ⟨rfl, rfl⟩
set_option maxHeartbeats 1000000 in
theorem wentry_yes (hm : ProgAt w p q B) (f i : Int) (h : entO f i = true) :
    Calls Tryd.prog 51 #[.pointer (some ⟨p, 0, none⟩), .int .i64 f, .int .i64 i] w fun e w' => e = .returned (.tuple #[.int .u64 (entE B f i), .bool true]) ∧ Kept w w' := by
  have hh := of_decide_eq_true h
  obtain ⟨h0, h1, h2, h3⟩ := hh
  have hf : decide (0 ≤ f ∧ f < 128) = true := decide_eq_true ⟨h0, h1⟩
  have hr := mread_any (f * 256 + 8 * i) 8 (by unfold U; omega) w p q B hm
  rw [ent_code h] at hr
  have he : rdZ B (f * 256 + 8 * i) 8 = entE B f i := by
    unfold rdZ entE
    rw [if_pos (ent_code h), h, cond_true]
    rfl
  rw [he] at hr
  go_enter Tryd.func51, Tryd.ntmps51
  go_wp2_with fail
  refine (isframe_any _).mono ?_
  rintro e w1 ⟨rfl, rfl⟩
  rw [hf]
  go_wp2_with fail
  refine (place_any _ _ h).mono ?_
  rintro e w1 ⟨rfl, rfl⟩
  go_wp2_with fail
  refine hr.mono ?_
  rintro e w1 ⟨rfl, k1⟩
  go_wp2
  go_ret2
  exact ⟨rfl, k1⟩
theorem wentry_no (f i : Int) (h : entO f i = false) (x : Value) (hx : x = .pointer (some ⟨p, 0, none⟩) ∨ x = .pointer none) :
    Calls Tryd.prog 51 #[x, .int .i64 f, .int .i64 i] w fun e w' => e = .returned (.tuple #[.int .u64 0, .bool false]) ∧ Kept w w' := by
  have hh := of_decide_eq_false h
  cases hf : decide (0 ≤ f ∧ f < 128)
  · rcases hx with rfl | rfl
    all_goals
      go_enter Tryd.func51, Tryd.ntmps51
      go_wp2_with fail
      refine (isframe_any _).mono ?_
      rintro e w1 ⟨rfl, rfl⟩
      rw [hf]
      go_wp2_with fail
      go_ret2
      exact ⟨rfl, Only.refl _ _⟩
  · have hg := of_decide_eq_true hf
    have hi : i < 0 ∨ (0 ≤ i ∧ 16 ≤ i) := by omega
    clear hh h
    rcases hx with rfl | rfl <;> rcases hi with hi | ⟨hi, hj⟩
    all_goals
      go_enter Tryd.func51, Tryd.ntmps51
      go_wp2_with fail
      refine (isframe_any _).mono ?_
      rintro e w1 ⟨rfl, rfl⟩
      rw [hf]
      go_wp2_with fail
      go_ret2
      exact ⟨rfl, Only.refl _ _⟩
/-- The landed package's table of calls: nothing but what pte's calls want. -/
structure Tab11 (w : World) : Prop where
  t : w = w
theorem Tab11.kept {w w' : World} (_ : Tab11 w) (_ : Kept w w') : Tab11 w' := ⟨rfl⟩
theorem wentry_any (_ : Tab11 w) (hm : ProgAt w p q B) (f i : Int) :
    Calls Tryd.prog 51 #[.pointer (some ⟨p, 0, none⟩), .int .i64 f, .int .i64 i] w fun e w' => e = .returned (.tuple #[.int .u64 (entE B f i), .bool (entO f i)]) ∧ Kept w w' := by
  cases h : entO f i
  · have he : entE B f i = 0 := by unfold entE; rw [h, cond_false]
    rw [he]
    exact wentry_no f i h _ (.inl rfl)
  · exact wentry_yes hm f i h
theorem wentry_nil (f i : Int) :
    Calls Tryd.prog 51 #[.pointer none, .int .i64 f, .int .i64 i] w fun e w' => e = .returned (.tuple #[.int .u64 (entE (fun _ => 0) f i), .bool (entO f i)]) ∧ Kept w w' := by
  rw [ent_zero]
  cases h : entO f i
  · exact wentry_no (p := 0) f i h _ (.inr rfl)
  · have hh := of_decide_eq_true h
    obtain ⟨h0, h1, h2, h3⟩ := hh
    have hf : decide (0 ≤ f ∧ f < 128) = true := decide_eq_true ⟨h0, h1⟩
    clear h
    go_enter Tryd.func51, Tryd.ntmps51
    go_wp2_with fail
    refine (isframe_any _).mono ?_
    rintro e w1 ⟨rfl, rfl⟩
    rw [hf]
    go_wp2_with fail
    go_ret2
    exact ⟨rfl, Only.refl _ _⟩
/-- The leaf of one page, by a leaf that stands for many. -/
theorem made_low16 {e l : Int} (he : U e) (hi : isE e = true) (hl : (0 ≤ l ∧ l < 16 ∧ frI e % 16 = 0) ∨ l = 0) : makI (frI e + l) (wrap64 e) = e + l * 256 := by
  obtain ⟨e0, e1⟩ := is_small he hi
  unfold makI frI wrap64 at *
  omega
set_option maxHeartbeats 1000000 in
theorem pageof_16 (e pg : Int) (he : U e) (hi : isE e = true) (hp : 0 ≤ pg) (h : frI e % 16 = 0) :
    Calls Tryd.prog 73 #[.int .u64 e, .int .i64 pg, .int .i64 16] w fun r w' => r = .returned (.tuple #[.int .u64 (e + pg % 16 * 256), .int .i64 0]) ∧ Kept w w' := by
  have hf := fr_bd e
  have hmk : makI (frI e + pg % 16) (wrap64 e) = e + pg % 16 * 256 := made_low16 he hi (.inl ⟨Int.emod_nonneg _ (by omega), Int.emod_lt_of_pos _ (by omega), h⟩)
  go_enter Tryd.func73, Tryd.ntmps73
  go_wp2_with fail
  refine (pframe_c _).mono ?_
  rintro r w1 ⟨rfl, k1⟩
  go_wp2_with fail
  refine (pmake_c _ _).mono ?_
  rintro r w2 ⟨rfl, k2⟩
  rw [hmk]
  go_wp2_with fail
  go_ret2
  exact ⟨rfl, k1.then k2⟩
set_option maxHeartbeats 1000000 in
theorem pageof_1 (e pg : Int) (he : U e) (hi : isE e = true) :
    Calls Tryd.prog 73 #[.int .u64 e, .int .i64 pg, .int .i64 1] w fun r w' => r = .returned (.tuple #[.int .u64 e, .int .i64 0]) ∧ Kept w w' := by
  have hf := fr_bd e
  have hmk : makI (frI e) (wrap64 e) = e := by
    have h : makI (frI e + 0) (wrap64 e) = e + 0 * 256 := made_low16 he hi (.inr rfl)
    simpa using h
  go_enter Tryd.func73, Tryd.ntmps73
  go_wp2_with fail
  refine (pframe_c _).mono ?_
  rintro r w1 ⟨rfl, k1⟩
  go_wp2_with fail
  refine (pmake_c _ _).mono ?_
  rintro r w2 ⟨rfl, k2⟩
  rw [hmk]
  go_wp2_with fail
  go_ret2
  exact ⟨rfl, k1.then k2⟩
set_option maxHeartbeats 1000000 in
theorem pageof_no (e pg : Int) (h : ¬ frI e % 16 = 0) :
    Calls Tryd.prog 73 #[.int .u64 e, .int .i64 pg, .int .i64 16] w fun r w' => r = .returned (.tuple #[.int .u64 0, .int .i64 1]) ∧ Kept w w' := by
  have hf := fr_bd e
  go_enter Tryd.func73, Tryd.ntmps73
  go_wp2_with fail
  refine (pframe_c _).mono ?_
  rintro r w1 ⟨rfl, k1⟩
  go_wp2_with fail
  go_ret2
  exact ⟨rfl, k1⟩
/-- Where a walk stands: how many pages an entry stands for, which table. -/
def atW (B : Nat → Int) (root a : Int) (m t : Int) : Prop :=
  (m = 16 ∧ t = root) ∨
  (m = 1 ∧ t = frI (entE B root (topI a)) ∧ entO root (topI a) = true ∧ isE (entE B root (topI a)) = true ∧ leafE (entE B root (topI a)) = false) ∨
  (m = 0 ∧ wkS B root a = ⟨0, 0, 1⟩)
/-- Entry's answers, for every world that keeps what is there. -/
structure EntAll (w : World) (x : Option Addr) (B : Nat → Int) : Prop where
  a : ∀ (w' : World), Kept w w' → ∀ f i : Int, Calls Tryd.prog 51 #[.pointer x, .int .i64 f, .int .i64 i] w' fun e w2 => e = .returned (.tuple #[.int .u64 (entE B f i), .bool (entO f i)]) ∧ Kept w' w2
theorem wkS_1 {root a : Int} (hs : ¬ 65536 ≤ a) (ho : entO root (topI a) = true) :
    (isE (entE B root (topI a)) = false → wkS B root a = ⟨0, 0, 1⟩) ∧
    (isE (entE B root (topI a)) = true → leafE (entE B root (topI a)) = true →
      (frI (entE B root (topI a)) % 16 = 0 → wkS B root a = ⟨entE B root (topI a) + a / 256 % 16 * 256, frI (entE B root (topI a)) + lowI a, 0⟩) ∧
      (¬ frI (entE B root (topI a)) % 16 = 0 → wkS B root a = ⟨0, 0, 1⟩)) ∧
    (isE (entE B root (topI a)) = true → leafE (entE B root (topI a)) = false →
      (entO (frI (entE B root (topI a))) (lowI a) = false → wkS B root a = ⟨0, 0, 2⟩) ∧
      (entO (frI (entE B root (topI a))) (lowI a) = true → leafE (entE B (frI (entE B root (topI a))) (lowI a)) = true → wkS B root a = ⟨entE B (frI (entE B root (topI a))) (lowI a), frI (entE B (frI (entE B root (topI a))) (lowI a)), 0⟩) ∧
      (entO (frI (entE B root (topI a))) (lowI a) = true → leafE (entE B (frI (entE B root (topI a))) (lowI a)) = false → wkS B root a = ⟨0, 0, 1⟩)) := by
  have h1 : ¬ entO root (topI a) = false := by rw [ho]; exact Bool.noConfusion
  refine ⟨fun hi => ?_, fun hi hl => ⟨fun hz => ?_, fun hz => ?_⟩, fun hi hl => ⟨fun h2 => ?_, fun h2 h3 => ?_, fun h2 h3 => ?_⟩⟩ <;> unfold wkS <;> rw [if_neg hs, if_neg h1]
  · rw [if_pos hi]
  all_goals
    rw [if_neg (by rw [hi]; exact Bool.noConfusion)]
  · rw [if_pos hl, if_pos hz]; rfl
  · rw [if_pos hl, if_neg hz]
  all_goals rw [if_neg (by rw [hl]; exact Bool.noConfusion)]
  · rw [if_pos h2]
  all_goals rw [if_neg (by rw [h2]; exact Bool.noConfusion)]
  · rw [if_pos h3]
  · rw [if_neg (by rw [h3]; exact Bool.noConfusion)]
set_option maxHeartbeats 2000000 in
theorem wwalk_by (x : Option Addr) (hB : ∀ i, i < 32768 → 0 ≤ B i ∧ B i < 256) (root a : Int) (ha : U a) (hE : EntAll w x B) :
    Calls Tryd.prog 61 #[.pointer x, .int .i64 root, .int .u64 a] w fun e w' => e = .returned (.tuple #[.int .u64 (wkS B root a).e, .int .i64 (wkS B root a).c]) ∧ Kept w w' := by
  by_cases hs : 65536 ≤ a
  · have h : wkS B root a = ⟨0, 0, 1⟩ := by unfold wkS; rw [if_pos hs]
    rw [h]
    clear h
    go_enter Tryd.func61, Tryd.ntmps61
    go_wp2_with fail
    go_step3
    go_wp2_with fail
    rw [Exit.noGoto_ret]
    go_ret2
    exact ⟨rfl, Only.refl _ _⟩
  · have ha0 := ha.1
    go_enter Tryd.func61, Tryd.ntmps61
    go_wp2_with fail
    go_step3
    go_wp2_with fail
    go_step3
    go_wp2_with fail
    go_loopw [10, 9] (fun i t wr => ∃ m n : Int, i = .int .i64 m ∧ t = .int .i64 n ∧ atW B root a m n ∧ Kept w wr) (fun i _ _ => (intOf i).toNat)
    case atStart => exact ⟨16, root, rfl, rfl, .inl ⟨rfl, rfl⟩, Only.refl _ _⟩
    case round =>
      obtain ⟨m, n, rfl, rfl, hat, hg⟩ := hrel
      have e1 : a / 256 / 16 % 16 = topI a := by unfold topI; omega
      have e2 : a / 256 % 16 = lowI a := rfl
      rcases hat with ⟨rfl, rfl⟩ | ⟨rfl, rfl, ho1, hi1, hl1⟩ | ⟨rfl, hw⟩
      · have hu := U_ent hB n (topI a)
        have hf := fr_bd (entE B n (topI a))
        cases ho : entO n (topI a)
        · have hw : wkS B n a = ⟨0, 0, 2⟩ := by unfold wkS; rw [if_neg (by omega), if_pos ho]
          go_wp2_with fail
          refine (hE.a _ hg _ _).mono ?_
          rintro e w1 ⟨rfl, k1⟩
          rw [e1, ho]
          go_wp2_with fail
          rw [Exit.noGoto_ret]
          go_ret2
          exact ⟨by rw [hw]; rfl, hg.then k1⟩
        · have hw0 := wkS_1 (B := B) (by omega) ho
          cases hi : isE (entE B n (topI a))
          · have hw : wkS B n a = ⟨0, 0, 1⟩ := hw0.1 hi
            go_wp2_with fail
            refine (hE.a _ hg _ _).mono ?_
            rintro e w1 ⟨rfl, k1⟩
            rw [e1, ho]
            go_wp2_with fail
            refine (pis_c _ hu).mono ?_
            rintro r w2 ⟨rfl, k2⟩
            rw [hi]
            go_wp2_with fail
            rw [Exit.noGoto_ret]
            go_ret2
            exact ⟨by rw [hw]; rfl, (hg.then k1).then k2⟩
          · cases hl : leafE (entE B n (topI a))
            · go_wp2_with fail
              refine (hE.a _ hg _ _).mono ?_
              rintro e w1 ⟨rfl, k1⟩
              rw [e1, ho]
              go_wp2_with fail
              refine (pis_c _ hu).mono ?_
              rintro r w2 ⟨rfl, k2⟩
              rw [hi]
              go_wp2_with fail
              refine (pleaf_c _ hu).mono ?_
              rintro r w3 ⟨rfl, k3⟩
              rw [hl]
              go_wp2_with fail
              refine (pframe_c _).mono ?_
              rintro r w4 ⟨rfl, k4⟩
              go_wp2_with fail
              exact ⟨⟨1, _, rfl, rfl, .inr (.inl ⟨rfl, rfl, ho, hi, hl⟩), (((hg.then k1).then k2).then k3).then k4⟩, by simp [intOf]⟩
            · by_cases hz : frI (entE B n (topI a)) % 16 = 0
              · have hw := (hw0.2.1 hi hl).1 hz
                go_wp2_with fail
                refine (hE.a _ hg _ _).mono ?_
                rintro e w1 ⟨rfl, k1⟩
                rw [e1, ho]
                go_wp2_with fail
                refine (pis_c _ hu).mono ?_
                rintro r w2 ⟨rfl, k2⟩
                rw [hi]
                go_wp2_with fail
                refine (pleaf_c _ hu).mono ?_
                rintro r w3 ⟨rfl, k3⟩
                rw [hl]
                go_wp2_with fail
                refine (pageof_16 _ _ hu hi (by omega) hz).mono ?_
                rintro r w4 ⟨rfl, k4⟩
                go_wp2_with fail
                rw [Exit.noGoto_ret]
                go_ret2
                exact ⟨by rw [hw]; rfl, (((hg.then k1).then k2).then k3).then k4⟩
              · have hw := (hw0.2.1 hi hl).2 hz
                go_wp2_with fail
                refine (hE.a _ hg _ _).mono ?_
                rintro e w1 ⟨rfl, k1⟩
                rw [e1, ho]
                go_wp2_with fail
                refine (pis_c _ hu).mono ?_
                rintro r w2 ⟨rfl, k2⟩
                rw [hi]
                go_wp2_with fail
                refine (pleaf_c _ hu).mono ?_
                rintro r w3 ⟨rfl, k3⟩
                rw [hl]
                go_wp2_with fail
                refine (pageof_no _ _ hz).mono ?_
                rintro r w4 ⟨rfl, k4⟩
                go_wp2_with fail
                rw [Exit.noGoto_ret]
                go_ret2
                exact ⟨by rw [hw]; rfl, (((hg.then k1).then k2).then k3).then k4⟩
      · have hw0 := (wkS_1 (B := B) (by omega) ho1).2.2 hi1 hl1
        generalize frI (entE B root (topI a)) = t at *
        have hu := U_ent hB t (lowI a)
        have hf := fr_bd (entE B t (lowI a))
        cases ho : entO t (lowI a)
        · have hw : wkS B root a = ⟨0, 0, 2⟩ := hw0.1 ho
          go_wp2_with fail
          refine (hE.a _ hg _ _).mono ?_
          rintro e w1 ⟨rfl, k1⟩
          rw [e2, ho]
          go_wp2_with fail
          rw [Exit.noGoto_ret]
          go_ret2
          exact ⟨by rw [hw]; rfl, hg.then k1⟩
        · cases hi : isE (entE B t (lowI a))
          · have hw : wkS B root a = ⟨0, 0, 1⟩ := hw0.2.2 ho (by unfold leafE; rw [hi]; rfl)
            go_wp2_with fail
            refine (hE.a _ hg _ _).mono ?_
            rintro e w1 ⟨rfl, k1⟩
            rw [e2, ho]
            go_wp2_with fail
            refine (pis_c _ hu).mono ?_
            rintro r w2 ⟨rfl, k2⟩
            rw [hi]
            go_wp2_with fail
            rw [Exit.noGoto_ret]
            go_ret2
            exact ⟨by rw [hw]; rfl, (hg.then k1).then k2⟩
          · cases hl : leafE (entE B t (lowI a))
            · have hw : wkS B root a = ⟨0, 0, 1⟩ := hw0.2.2 ho hl
              go_wp2_with fail
              refine (hE.a _ hg _ _).mono ?_
              rintro e w1 ⟨rfl, k1⟩
              rw [e2, ho]
              go_wp2_with fail
              refine (pis_c _ hu).mono ?_
              rintro r w2 ⟨rfl, k2⟩
              rw [hi]
              go_wp2_with fail
              refine (pleaf_c _ hu).mono ?_
              rintro r w3 ⟨rfl, k3⟩
              rw [hl]
              go_wp2_with fail
              refine (pframe_c _).mono ?_
              rintro r w4 ⟨rfl, k4⟩
              go_wp2_with fail
              exact ⟨⟨0, _, rfl, rfl, .inr (.inr ⟨rfl, hw⟩), (((hg.then k1).then k2).then k3).then k4⟩, by simp [intOf]⟩
            · have hw := hw0.2.1 ho hl
              go_wp2_with fail
              refine (hE.a _ hg _ _).mono ?_
              rintro e w1 ⟨rfl, k1⟩
              rw [e2, ho]
              go_wp2_with fail
              refine (pis_c _ hu).mono ?_
              rintro r w2 ⟨rfl, k2⟩
              rw [hi]
              go_wp2_with fail
              refine (pleaf_c _ hu).mono ?_
              rintro r w3 ⟨rfl, k3⟩
              rw [hl]
              go_wp2_with fail
              refine (pageof_1 _ _ hu hi).mono ?_
              rintro r w4 ⟨rfl, k4⟩
              go_wp2_with fail
              rw [Exit.noGoto_ret]
              go_ret2
              exact ⟨by rw [hw]; rfl, (((hg.then k1).then k2).then k3).then k4⟩
      · go_wp2_with fail
        rw [Exit.noGoto_ret]
        go_ret2
        exact ⟨by rw [hw]; rfl, hg⟩
theorem place_U {f i : Int} (h : entO f i = true) : U (f * 256 + 8 * i) := by
  have hh := of_decide_eq_true h
  unfold U
  omega
theorem wwalk_any (_ : Tab11 w) (hm : ProgAt w p q B) (root a : Int) (ha : U a) :
    Calls Tryd.prog 61 #[.pointer (some ⟨p, 0, none⟩), .int .i64 root, .int .u64 a] w fun e w' => e = .returned (.tuple #[.int .u64 (wkS B root a).e, .int .i64 (wkS B root a).c]) ∧ Kept w w' :=
  wwalk_by _ hm.byte root a ha ⟨fun _ k f i => wentry_any ⟨rfl⟩ (hm.kept k) f i⟩
theorem wwalk_nil (_ : Tab11 w) (root a : Int) (ha : U a) :
    Calls Tryd.prog 61 #[.pointer none, .int .i64 root, .int .u64 a] w fun e w' => e = .returned (.tuple #[.int .u64 (wkS (fun _ => 0) root a).e, .int .i64 (wkS (fun _ => 0) root a).c]) ∧ Kept w w' :=
  wwalk_by _ (fun _ _ => by omega) root a ha ⟨fun _ _ f i => wentry_nil f i⟩
end
end Go.Proofs.YtpplclenokfpeaaDoor
