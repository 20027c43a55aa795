/-
  What a translation left to be kept lets another access of that page through just as a new walk does: on the document's own words. Plain facts: no call of the program is walked here.
-/
import Derived.Test.YtpplclenokfpeaaDoorTwoAl
import Derived.Test.YtpplclenokfpeaaDoorTrRoom
namespace Go.Proofs.YtpplclenokfpeaaDoor
open Go.RowKit
theorem ent_no255 {e : Int} (he : U e) (h : isE e = true) : ¬ e % 256 = 255 := by
  intro hx
  have h5 : gb e 5 = false := by
    unfold isE at h
    simp only [Bool.and_eq_true, Bool.not_eq_true'] at h
    exact h.2.2.2
  obtain ⟨E, rfl, hE⟩ := he.nat
  unfold gb at h5
  rw [ofInt_tb he] at h5
  have h6 := Nat.testBit_mod_two_pow E 8 5
  have h7 : E % 2 ^ 8 = 255 := by omega
  rw [h7] at h6
  have h8 : tb (E : Int) 5 = E.testBit 5 := rfl
  rw [h8] at h5
  rw [h5] at h6
  exact absurd h6 (by decide)
section
variable {B : Nat → Int}
theorem page_idx {a b : Int} (h : a / 256 = b / 256) : topI a = topI b ∧ lowI a = lowI b ∧ (65536 ≤ a ↔ 65536 ≤ b) := by
  unfold topI lowI
  omega
theorem wk_same (root : Int) {a b : Int} (h : a / 256 = b / 256) : wkS B root a = wkS B root b := by
  obtain ⟨h1, h2, h3⟩ := page_idx h
  unfold wkS
  rw [h1, h2]
  by_cases hx : 65536 ≤ a
  · rw [if_pos hx, if_pos (h3.1 hx)]
  · rw [if_neg hx, if_neg (fun y => hx (h3.2 y))]
theorem wk_no255 (hB : ∀ i, i < 32768 → 0 ≤ B i ∧ B i < 256) (root a : Int) (hc : (wkS B root a).c = 0) : ¬ (wkS B root a).e % 256 = 255 := by
  revert hc
  unfold wkS
  split
  · intro hc; cases hc
  · split
    · intro hc; cases hc
    · split
      · intro hc; cases hc
      · split
        · split
          · rename_i h1 h2 h3 h4 h5
            intro _
            have := ent_no255 (U_ent hB root (topI a)) (leaf_is h4)
            simp only
            omega
          · intro hc; cases hc
        · split
          · intro hc; cases hc
          · split
            · rename_i h1 h2 h3 h4 h5 h6
              intro _
              exact ent_no255 (U_ent hB _ _) (leaf_is h6)
            · intro hc; cases hc
theorem stp_same (a : AskM) (f i k k' : Int) : (stpS B a f i k).ok = (stpS B a f i k').ok ∧ (stpS B a f i k).e = (stpS B a f i k').e := by
  unfold stpS
  split
  · exact ⟨rfl, rfl⟩
  · split <;> exact ⟨rfl, rfl⟩
theorem stp_U (hB : ∀ i, i < 32768 → 0 ≤ B i ∧ B i < 256) (a : AskM) {f i : Int} (k : Int) (hf : 0 ≤ f * 256 + 8 * i) (ho : (stpS B a f i k).ok = true) : U (stpS B a f i k).e := by
  revert ho
  have hg := gst_bd hB a (f * 256 + 8 * i) 1 false hf
  unfold stpS
  split
  · intro ho; cases ho
  · split
    · intro ho; cases ho
    · rename_i h1 h2
      intro _
      have hz : codeI (gstS B a (f * 256 + 8 * i) 1 false).p 8 = 0 := Classical.byContradiction fun x => h2 (.inr x)
      obtain ⟨_, z1, z2⟩ := code_zero8 hz
      exact rd_bd 8 _ (by omega) hB
theorem fst_same (a : AskM) {x y : Int} (h : x / 256 = y / 256) (k k' : Int) (ho : (fstS B a x k).ok = true) : (fstS B a y k').ok = true ∧ (fstS B a y k').e = (fstS B a x k).e ∧ (fstS B a y k').frame = (fstS B a x k).frame := by
  obtain ⟨h1, h2, _⟩ := page_idx h
  obtain ⟨s1, s2⟩ := stp_same (B := B) a a.root (topI x) k k'
  obtain ⟨t1, t2⟩ := stp_same (B := B) a (frI (stpS B a a.root (topI x) k').e) (lowI x) k k'
  unfold fstS at ho ⊢
  rw [← h1, ← h2]
  simp only [s1, s2, t1, t2] at ho ⊢
  by_cases c1 : (stpS B a a.root (topI x) k').ok = false
  · simp [c1] at ho
  · rw [if_neg c1] at ho ⊢
    by_cases c2 : isE (stpS B a a.root (topI x) k').e = false ∨ leafE (stpS B a a.root (topI x) k').e = true ∧ ¬frI (stpS B a a.root (topI x) k').e % 16 = 0
    · rw [if_pos c2] at ho; cases ho
    · rw [if_neg c1, if_neg c2, if_neg c2]
      rw [if_neg c2] at ho
      by_cases c3 : leafE (stpS B a a.root (topI x) k').e = true
      · rw [if_pos c3, if_pos c3]
        exact ⟨rfl, rfl, rfl⟩
      · rw [if_neg c3] at ho
        rw [if_neg c3, if_neg c3]
        by_cases c4 : (stpS B a (frI (stpS B a a.root (topI x) k').e) (lowI x) k').ok = false
        · rw [if_pos c4] at ho; cases ho
        · rw [if_neg c4] at ho
          rw [if_neg c4, if_neg c4]
          by_cases c5 : leafE (stpS B a (frI (stpS B a a.root (topI x) k').e) (lowI x) k').e = false
          · rw [if_pos c5] at ho; cases ho
          · rw [if_neg c5, if_neg c5]
            exact ⟨rfl, rfl, rfl⟩
theorem fst_no255 (hB : ∀ i, i < 32768 → 0 ≤ B i ∧ B i < 256) (a : AskM) (hr : 0 ≤ a.root) (at_ k : Int) (ho : (fstS B a at_ k).ok = true) : ¬ (fstS B a at_ k).e % 256 = 255 := by
  obtain ⟨t0, t1⟩ := top_bd at_
  obtain ⟨l0, l1⟩ := low_bd at_
  have u1 := stp_U hB a (f := a.root) (i := topI at_) k (by omega)
  have fb := fr_bd (stpS B a a.root (topI at_) k).e
  have u2 := stp_U hB a (f := frI (stpS B a a.root (topI at_) k).e) (i := lowI at_) k (by omega)
  revert ho
  unfold fstS
  split
  · intro ho; cases ho
  · split
    · intro ho; cases ho
    · split
      · rename_i h1 h2 h3
        intro _
        exact ent_no255 (u1 (by simpa using h1)) (leaf_is h3)
      · split
        · intro ho; cases ho
        · split
          · intro ho; cases ho
          · rename_i h1 h2 h3 h4 h5
            intro _
            exact ent_no255 (u2 (by simpa using h4)) (leaf_is (by simpa using h5))
theorem gst_same (hB : ∀ i, i < 32768 → 0 ≤ B i ∧ B i < 256) (a : AskM) {x y : Int} (h : x / 256 = y / 256) (hy : y < 65536) (_hx0 : 0 ≤ x) (hy0 : 0 ≤ y) (k k' : Int) (hc : (gstS B a x k false).c = 0) :
    (gstS B a x k false).p / 256 * 256 + y % 256 < 65536 ∧
    if ¬ (gstS B a x k false).b = 255 ∧ mayE (gstS B a x k false).b k' true false false = false then (gstS B a y k' false).c = 1
    else gstS B a y k' false = ⟨(gstS B a x k false).p / 256 * 256 + y % 256, (gstS B a x k false).b, 0⟩ := by
  obtain ⟨u0, u1, u2, u3, _⟩ := wk_U hB a.host x
  have hw := wk_same (B := B) a.host h
  have hn := wk_no255 hB a.host x
  have hx : ¬ 65536 ≤ x := by omega
  have hy' : ¬ 65536 ≤ y := by omega
  unfold gstS at hc ⊢
  rw [if_neg hx] at hc
  rw [if_neg hx, if_neg hy', ← hw]
  by_cases hs : a.second = false
  · rw [if_pos hs, if_pos hs]
    refine ⟨by simp only; omega, ?_⟩
    rw [if_neg (by simp)]
    have : y = x / 256 * 256 + y % 256 := by omega
    simp only
    rw [← this]
  · rw [if_neg hs] at hc
    rw [if_neg hs, if_neg hs]
    by_cases hc1 : ¬ (wkS B a.host x).c = 0
    · rw [if_pos hc1] at hc; exact absurd hc hc1
    · rw [if_neg hc1] at hc
      rw [if_neg hc1, if_neg hc1]
      by_cases hm : mayE ((wkS B a.host x).e % 256) (knd k false) true false false = false
      · rw [if_pos hm] at hc; cases hc
      · rw [if_neg hm]
        have h255 := hn (Classical.byContradiction hc1)
        have hp : ((wkS B a.host x).f * 256 + x % 256) / 256 = (wkS B a.host x).f := by omega
        simp only
        rw [hp]
        refine ⟨by omega, ?_⟩
        by_cases hm2 : mayE ((wkS B a.host x).e % 256) k' true false false = false
        · rw [if_pos ⟨h255, hm2⟩, if_pos (show mayE ((wkS B a.host x).e % 256) (knd k' false) true false false = false from hm2)]
        · rw [if_neg (fun z => hm2 z.2), if_neg (show ¬ mayE ((wkS B a.host x).e % 256) (knd k' false) true false false = false from hm2)]
theorem end_ok (a : AskM) (x px k b : Int) (v : Bool) (ho : (endS B a x px k b v false).ok = true) : (gstS B a px k false).c = 0 ∧ (endS B a x px k b v false).e = ⟨true, v, x / 256 % 256, a.asid, a.vmid, (gstS B a px k false).p / 256, b, (gstS B a px k false).b, px / 256⟩ := by
  unfold endS at ho ⊢
  by_cases c1 : (gstS B a px k false).c = 1
  · rw [if_pos c1] at ho; cases ho
  · rw [if_neg c1] at ho ⊢
    by_cases c2 : ¬ (gstS B a px k false).c = 0
    · rw [if_pos c2] at ho; cases ho
    · rw [if_neg c2]
      exact ⟨Classical.byContradiction c2, rfl⟩
theorem end_law (hB : ∀ i, i < 32768 → 0 ≤ B i ∧ B i < 256) (a : AskM) {x y px py : Int} (hp : px / 256 = py / 256) (h256 : x / 256 % 256 = y / 256 % 256) (hm : py % 256 = y % 256) (px0 : 0 ≤ px) (py0 : 0 ≤ py) (py1 : py < 65536) (k k' b : Int) (v : Bool) (ho : (endS B a x px k b v false).ok = true) :
    (if ¬ (endS B a x px k b v false).e.host = 255 ∧ mayE (endS B a x px k b v false).e.host k' true false false = false then endS B a y py k' b v false = ⟨0, entNone, ⟨gfC k', y, ((endS B a x px k b v false).e.guest * 256 + y % 256) / 4, v⟩, false⟩
    else (endS B a y py k' b v false).ok = true ∧ (endS B a y py k' b v false).e = (endS B a x px k b v false).e) := by
  obtain ⟨hc, he⟩ := end_ok a x px k b v ho
  obtain ⟨hg, hs⟩ := gst_same hB a hp py1 px0 py0 k k' hc
  rw [he]
  simp only
  by_cases c : ¬ (gstS B a px k false).b = 255 ∧ mayE (gstS B a px k false).b k' true false false = false
  · rw [if_pos c] at hs ⊢
    unfold endS
    rw [if_pos hs]
    have : px / 256 * 256 + y % 256 = py := by omega
    rw [this]
  · rw [if_neg c] at hs ⊢
    unfold endS
    rw [hs]
    simp only
    rw [if_neg (by decide), if_neg (by decide)]
    have e1 : ((gstS B a px k false).p / 256 * 256 + py % 256) / 256 = (gstS B a px k false).p / 256 := by omega
    refine ⟨rfl, ?_⟩
    simp only
    rw [e1, h256, hp]
theorem tr_no (S : StM) (x k level : Int) (v : Bool) (ho : (trS B S x k level v false).ok = false) : (trS B S x k level v false).e = entNone := by
  have he : ∀ a px b, (endS B a x px k b v false).ok = false → (endS B a x px k b v false).e = entNone := by
    intro a px b
    unfold endS
    split
    · intro _; rfl
    · split
      · intro _; rfl
      · intro h; cases h
  revert ho
  unfold trS
  split
  · intro h; cases h
  · split
    · intro _; rfl
    · split
      · exact he _ _ _
      · split
        · intro _; rfl
        · split
          · intro _; rfl
          · exact he _ _ _
theorem kept_law (hB : ∀ i, i < 32768 → 0 ≤ B i ∧ B i < 256) (S : StM) {x y : Int} (hp : x / 256 = y / 256) (x0 : 0 ≤ x) (y0 : 0 ≤ y) (k k' level : Int) (v : Bool) (hl : askS S level v = askS S 1 v) (ho : (trS B S x k 1 v false).ok = true) :
    (((trS B S x k 1 v false).e.bits = 255 ∧ (trS B S x k 1 v false).e.host = 255) → (alwS S (trS B S x k 1 v false).e y k' level v).ok = true) ∧
    (¬ ((trS B S x k 1 v false).e.bits = 255 ∧ (trS B S x k 1 v false).e.host = 255) → (alwS S (trS B S x k 1 v false).e y k' level v).ok = (trS B S y k' level v false).ok ∧
      ((trS B S y k' level v false).ok = true → (trS B S y k' level v false).e = (trS B S x k 1 v false).e) ∧ ((trS B S y k' level v false).ok = false → (alwS S (trS B S x k 1 v false).e y k' level v).f = (trS B S y k' level v false).f)) := by
  refine ⟨fun h => ?_, fun hn => ?_⟩
  · unfold alwS
    rw [if_neg (fun z => z.1 h.1), if_neg (fun z => z.1 h.2)]
  · obtain ⟨⟨rt0, rt1⟩, _⟩ := ask_bd S 1 v
    have hi := page_idx hp
    unfold alwS
    unfold trS at ho hn ⊢
    rw [hl]
    generalize askS S 1 v = A at *
    by_cases c0 : A.first = false ∧ A.second = false
    · rw [if_pos c0] at hn
      exact absurd ⟨rfl, rfl⟩ hn
    · rw [if_neg c0] at ho hn
      rw [if_neg c0, if_neg c0]
      by_cases c1 : 65536 ≤ x
      · rw [if_pos c1] at ho; cases ho
      · rw [if_neg c1] at ho hn
        rw [if_neg c1, if_neg (fun z => c1 (hi.2.2.2 z))]
        have c1' : ¬ 65536 ≤ y := fun z => c1 (hi.2.2.2 z)
        by_cases c2 : A.first = false
        · rw [if_pos c2] at ho hn
          rw [if_pos c2, if_pos c2]
          have hE := end_law hB A (x := x) (y := y) (px := x) (py := y) hp (by omega) rfl x0 y0 (by omega) k k' 255 v ho
          obtain ⟨_, he⟩ := end_ok A x x k 255 v ho
          rw [if_neg (fun z => z.1 (by rw [he]))]
          by_cases cm : ¬ (endS B A x x k 255 v false).e.host = 255 ∧ mayE (endS B A x x k 255 v false).e.host k' true false false = false
          · rw [if_pos cm] at hE
            rw [if_pos cm, hE]
            exact ⟨rfl, (fun z => by cases z), fun _ => rfl⟩
          · rw [if_neg cm] at hE
            rw [if_neg cm, hE.1]
            exact ⟨rfl, fun _ => hE.2, (fun z => by cases z)⟩
        · rw [if_neg c2] at ho hn
          rw [if_neg c2, if_neg c2]
          by_cases c3 : (fstS B A x k).ok = false
          · rw [if_pos c3] at ho; cases ho
          · rw [if_neg c3] at ho hn
            rw [if_neg c3]
            have hfo : (fstS B A x k).ok = true := by simpa using c3
            obtain ⟨f1, f2, f3⟩ := fst_same (B := B) A hp k k' hfo
            have h255 := fst_no255 hB A rt0 x k hfo
            obtain ⟨⟨fb0, fb1⟩, _⟩ := fst_bd B A x k
            rw [f1, f2, f3, if_neg (show ¬ (true = false) by decide)]
            by_cases c4 : mayE ((fstS B A x k).e % 256) (knd k false) (1 == 0) A.sum A.mxr = false
            · rw [if_pos (show mayE ((fstS B A x k).e % 256) (knd k false) ((1 : Int) == 0) A.sum A.mxr = false from c4)] at ho; cases ho
            · rw [if_neg (show ¬ mayE ((fstS B A x k).e % 256) (knd k false) ((1 : Int) == 0) A.sum A.mxr = false from c4)] at ho hn
              rw [if_neg (show ¬ mayE ((fstS B A x k).e % 256) (knd k false) ((1 : Int) == 0) A.sum A.mxr = false from c4)]
              have hE := end_law hB A (x := x) (y := y) (px := (fstS B A x k).frame * 256 + x % 256) (py := (fstS B A x k).frame * 256 + y % 256) (by omega) (by omega) (by omega) (by omega) (by omega) (by omega) k k' ((fstS B A x k).e % 256) v ho
              obtain ⟨_, he⟩ := end_ok A x ((fstS B A x k).frame * 256 + x % 256) k ((fstS B A x k).e % 256) v ho
              have hb : (endS B A x ((fstS B A x k).frame * 256 + x % 256) k ((fstS B A x k).e % 256) v false).e.bits = (fstS B A x k).e % 256 := by rw [he]
              rw [hb]
              by_cases c5 : mayE ((fstS B A x k).e % 256) k' (level == 0) A.sum A.mxr = false
              · rw [if_pos ⟨h255, c5⟩, if_pos (show mayE ((fstS B A x k).e % 256) (knd k' false) (level == 0) A.sum A.mxr = false from c5)]
                exact ⟨rfl, (fun z => by cases z), fun _ => rfl⟩
              · rw [if_neg (fun z => c5 z.2), if_neg (show ¬ mayE ((fstS B A x k).e % 256) (knd k' false) (level == 0) A.sum A.mxr = false from c5)]
                by_cases cm : ¬ (endS B A x ((fstS B A x k).frame * 256 + x % 256) k ((fstS B A x k).e % 256) v false).e.host = 255 ∧ mayE (endS B A x ((fstS B A x k).frame * 256 + x % 256) k ((fstS B A x k).e % 256) v false).e.host k' true false false = false
                · rw [if_pos cm] at hE
                  rw [if_pos cm, hE]
                  exact ⟨rfl, (fun z => by cases z), fun _ => rfl⟩
                · rw [if_neg cm] at hE
                  rw [if_neg cm, hE.1]
                  exact ⟨rfl, fun _ => hE.2, (fun z => by cases z)⟩
theorem gst_b (_hB : ∀ i, i < 32768 → 0 ≤ B i ∧ B i < 256) (a : AskM) (place k : Int) (hc : (gstS B a place k false).c = 0) : 0 ≤ (gstS B a place k false).b ∧ (gstS B a place k false).b < 256 := by
  revert hc
  unfold gstS
  split
  · intro hc; cases hc
  · split
    · intro _; exact ⟨by simp, by simp⟩
    · split
      · rename_i h1 h2 h3
        intro hc; exact absurd hc h3
      · split
        · intro hc; cases hc
        · intro _
          simp only
          omega
theorem end_Ok (hB : ∀ i, i < 32768 → 0 ≤ B i ∧ B i < 256) (a : AskM) (ha : (0 ≤ a.asid ∧ a.asid < 256) ∧ (0 ≤ a.vmid ∧ a.vmid < 256)) (x px k b : Int) (v : Bool) (hb : 0 ≤ b ∧ b < 256) (p0 : 0 ≤ px) (p1 : px < 65536) (ho : (endS B a x px k b v false).ok = true) : (endS B a x px k b v false).e.Ok := by
  obtain ⟨hc, he⟩ := end_ok a x px k b v ho
  obtain ⟨g0, g1, _⟩ := gst_bd hB a px k false p0
  have hh := gst_b hB a px k hc
  rw [he]
  exact ⟨⟨by simp only; omega, by simp only; omega⟩, ha.1, ha.2, ⟨by simp only; omega, by simp only; omega⟩, hb, hh, ⟨by simp only; omega, by simp only; omega⟩⟩
theorem tr_Ok (hB : ∀ i, i < 32768 → 0 ≤ B i ∧ B i < 256) (S : StM) (x k level : Int) (v : Bool) (x0 : 0 ≤ x) (ho : (trS B S x k level v false).ok = true) : (trS B S x k level v false).e.Ok := by
  obtain ⟨⟨rt0, rt1⟩, _, ha, hv⟩ := ask_bd S level v
  unfold trS at ho ⊢
  generalize askS S level v = A at *
  by_cases c0 : A.first = false ∧ A.second = false
  · rw [if_pos c0]
    have hp : 0 ≤ (if x < 65536 then x / 256 else 0) ∧ (if x < 65536 then x / 256 else 0) < 256 := by split <;> omega
    exact ⟨hp, ha, hv, hp, ⟨by simp, by simp⟩, ⟨by simp, by simp⟩, hp⟩
  · rw [if_neg c0] at ho ⊢
    by_cases c1 : 65536 ≤ x
    · rw [if_pos c1] at ho; cases ho
    · rw [if_neg c1] at ho ⊢
      by_cases c2 : A.first = false
      · rw [if_pos c2] at ho ⊢
        exact end_Ok hB A ⟨ha, hv⟩ x x k 255 v ⟨by omega, by omega⟩ x0 (by omega) ho
      · rw [if_neg c2] at ho ⊢
        by_cases c3 : (fstS B A x k).ok = false
        · rw [if_pos c3] at ho; cases ho
        · rw [if_neg c3] at ho ⊢
          obtain ⟨⟨fb0, fb1⟩, _⟩ := fst_bd B A x k
          by_cases c4 : mayE ((fstS B A x k).e % 256) (knd k false) (level == 0) A.sum A.mxr = false
          · rw [if_pos c4] at ho; cases ho
          · rw [if_neg c4] at ho ⊢
            exact end_Ok hB A ⟨ha, hv⟩ x ((fstS B A x k).frame * 256 + x % 256) k ((fstS B A x k).e % 256) v ⟨by omega, by omega⟩ (by omega) (by omega) ho
end
/-- The place of another page's byte, as the statement reckons it. -/
theorem mix_place {x z : Int} (hx : U x) : bits .or .u64 (bits .andNot .u64 x 255) (z % 256) = x / 256 * 256 + z % 256 := by
  obtain ⟨X, rfl, hX⟩ := hx.nat
  have h1 : bits .andNot .u64 (X : Int) 255 = ((2 ^ 8 * (X / 2 ^ 8) : Nat) : Int) := by
    refine U.ext (U_andNot _ _) ⟨by omega, by omega⟩ fun i hi => ?_
    rw [tb_andNot ⟨by omega, by omega⟩ (show U 255 from ⟨by omega, by omega⟩) i hi]
    unfold tb
    rw [Int.toNat_natCast, Int.toNat_natCast, Nat.testBit_two_pow_mul, Nat.testBit_div_two_pow, show (255 : Int).toNat = 2 ^ 8 - 1 from rfl, Nat.testBit_two_pow_sub_one]
    by_cases h8 : 8 ≤ i
    · simp [h8, show ¬ i < 8 by omega]
    · simp [h8, show i < 8 by omega]
  obtain ⟨Z, hZ⟩ := Int.eq_ofNat_of_zero_le (show 0 ≤ z % 256 by omega)
  have hz : Z < 256 := by omega
  rw [h1, hZ, bits_or, BitVec.ofInt_natCast, BitVec.ofInt_natCast, BitVec.toNat_or, BitVec.toNat_ofNat, BitVec.toNat_ofNat, Nat.mod_eq_of_lt (by omega), Nat.mod_eq_of_lt (by omega), ← Nat.two_pow_add_eq_or_of_lt (by omega)]
  omega
theorem ne_flt (f : FltM) (w : World) : (binOp .neq 38 (.agg (fltA f).toArray) (.agg (fltA f).toArray)).run Tryd.prog w = Result.ok (.bool false) w := by
  unfold fltA
  simp [go_sem]
end Go.Proofs.YtpplclenokfpeaaDoor
