/-
  What statements WalkNone, WalkPointers and WalkGreat ask: walked for every argument.
-/
import Derived.Test.YtagfhfmaonoehaaWkFace
namespace Go.Proofs.Ytagfhfmaonoehaa
open Go.RowKit
theorem is_zero : isE 0 = false := by decide
theorem wk_zero (root a : Int) : (wkS (fun _ => 0) root a).e = 0 ∧ (wkS (fun _ => 0) root a).c = if a < 65536 ∧ (root < 0 ∨ 128 ≤ root) then 2 else 1 := by
  have hb := top_bd a
  unfold wkS
  by_cases h : 65536 ≤ a
  · rw [if_pos h, if_neg (by omega)]
    exact ⟨rfl, rfl⟩
  · rw [if_neg h]
    cases ho : entO root (topI a)
    · have hh := of_decide_eq_false ho
      rw [if_pos rfl, if_pos (by omega)]
      exact ⟨rfl, rfl⟩
    · have hh := of_decide_eq_true ho
      rw [if_neg (by simp), ent_zero, is_zero, if_pos rfl, if_neg (by omega)]
      exact ⟨rfl, rfl⟩
set_option maxHeartbeats 1000000 in
theorem wnone_any (root a : Int) (ha : U a) {W : World} (hT : Tab11 W) :
    Calls Try.prog 6 #[.int .i64 root, .int .u64 a] W fun e w' => e = .returned (.bool true) ∧ Kept W w' := by
  obtain ⟨z1, z2⟩ := wk_zero root a
  have key : (¬ a < 65536 ∧ (wkS (fun _ => 0) root a).c = 1) ∨ (a < 65536 ∧ root < 0 ∧ (wkS (fun _ => 0) root a).c = 2) ∨ (a < 65536 ∧ ¬ root < 0 ∧ 128 ≤ root ∧ (wkS (fun _ => 0) root a).c = 2) ∨ (a < 65536 ∧ ¬ root < 0 ∧ ¬ 128 ≤ root ∧ (wkS (fun _ => 0) root a).c = 1) := by
    rw [z2]
    by_cases h1 : a < 65536
    · by_cases h2 : root < 0
      · rw [if_pos ⟨h1, .inl h2⟩]; simp [h1, h2]
      · by_cases h3 : 128 ≤ root
        · rw [if_pos ⟨h1, .inr h3⟩]; simp [h1, h2, h3]
        · rw [if_neg (by omega)]; simp [h1, h2, h3]
    · rw [if_neg (by omega)]; simp [h1]
  clear z2
  rcases key with ⟨h1, z2⟩ | ⟨h1, h2, z2⟩ | ⟨h1, h2, h3, z2⟩ | ⟨h1, h2, h3, z2⟩
  all_goals
    go_enter Try.func6, Try.ntmps6
    go_wp2_with fail
    refine (known11_any hT (Only.refl _ W)).mono ?_
    rintro e w1 ⟨rfl, k1⟩
    go_wp2_with fail
    refine (new_from k1).mono ?_
    rintro e w2 ⟨p, q, rfl, s2⟩
    go_wp2_with fail
    refine (wwlk_from hT s2 _ _ ha).mono ?_
    rintro e w3 ⟨rfl, s3⟩
    rw [z1, z2]
    go_wp2_with fail
    refine (wnil_from hT s3 _ _ ha).mono ?_
    rintro e w4 ⟨rfl, s4⟩
    rw [z1, z2]
    clear z1 z2
    go_wp2
    go_ret
    exact ⟨rfl, s4.k⟩
/-- A walk through a pointer. -/
theorem wk_two {B : Nat → Int} {root a p : Int} (h : a < 65536) (ho : entO root (topI a) = true) (he : entE B root (topI a) = makI p 1) (p0 : 0 ≤ p) (p1 : p ≤ 255) :
    wkS B root a = if entO p (lowI a) = false then ⟨0, 0, 2⟩ else if leafE (entE B p (lowI a)) = true then ⟨entE B p (lowI a), frI (entE B p (lowI a)), 0⟩ else ⟨0, 0, 1⟩ := by
  have hi : isE (makI p 1) = true := by rw [made_is p0 p1 (by omega) (by omega)]; decide
  have hf : leafE (makI p 1) = false := by rw [made_leaf p0 p1 (by omega) (by omega), hi]; decide
  unfold wkS
  rw [if_neg (by omega), if_neg (by rw [ho]; simp), he, if_neg (by rw [hi]; simp), if_neg (by rw [hf]; simp), made_frame p0 p1]
/-- A walk to a great page. -/
theorem wk_one {B : Nat → Int} {root a f b : Int} (h : a < 65536) (ho : entO root (topI a) = true) (he : entE B root (topI a) = makI f b) (f0 : 0 ≤ f) (f1 : f ≤ 255) (hl : leafE (makI f b) = true) :
    wkS B root a = if f % 16 = 0 then ⟨makI f b + lowI a * 256, f + lowI a, 0⟩ else ⟨0, 0, 1⟩ := by
  have hi : isE (makI f b) = true := leaf_is hl
  unfold wkS
  rw [if_neg (by omega), if_neg (by rw [ho]; simp), he, if_neg (by rw [hi]; simp), if_pos hl, made_frame f0 f1]
theorem or_128 {f : Int} (f0 : 0 ≤ f) (f1 : f ≤ 255) : 128 ≤ bits .or .i64 f 128 ∧ bits .or .i64 f 128 ≤ 255 := by
  obtain ⟨F, rfl⟩ := Int.eq_ofNat_of_zero_le f0
  have h : bits .or .i64 (F : Int) 128 = IntKind.i64.wrap ((BitVec.ofInt 64 (F : Int) ||| BitVec.ofInt 64 ((128 : Nat) : Int)).toNat : Int) := rfl
  rw [h, BitVec.toNat_or, BitVec.ofInt_natCast, BitVec.ofInt_natCast, BitVec.toNat_ofNat, BitVec.toNat_ofNat, Nat.mod_eq_of_lt (by omega), Nat.mod_eq_of_lt (by omega)]
  have h1 : F ||| 128 < 2 ^ 8 := Nat.or_lt_two_pow (by omega) (by omega)
  have h2 : 128 ≤ F ||| 128 := Nat.right_le_or
  rw [IntKind.wrap_i64]
  omega
theorem or_place {t l : Int} (t0 : 0 ≤ t) (t1 : t < 16) (l0 : 0 ≤ l) (l1 : l < 16) : bits .or .u64 (t * 4096) (l * 256) = t * 4096 + l * 256 := by
  obtain ⟨T, rfl⟩ := Int.eq_ofNat_of_zero_le t0
  obtain ⟨L, rfl⟩ := Int.eq_ofNat_of_zero_le l0
  have e1 : ((T : Int) * 4096) = ((2 ^ 12 * T : Nat) : Int) := by omega
  have e2 : ((L : Int) * 256) = ((256 * L : Nat) : Int) := by omega
  rw [e1, e2, bits_or, BitVec.toNat_or, BitVec.ofInt_natCast, BitVec.ofInt_natCast, BitVec.toNat_ofNat, BitVec.toNat_ofNat, Nat.mod_eq_of_lt (by omega), Nat.mod_eq_of_lt (by omega), ← Nat.two_pow_add_eq_or_of_lt (by omega)]
  omega
theorem pl_top {t l x : Int} (l0 : 0 ≤ l) (l1 : l < 16) (x0 : 0 ≤ x) (x1 : x < 256) (t0 : 0 ≤ t) (t1 : t < 16) : topI (t * 4096 + l * 256 + x) = t := by unfold topI; omega
theorem pl_low {t l x : Int} (l0 : 0 ≤ l) (l1 : l < 16) (x0 : 0 ≤ x) (x1 : x < 256) : lowI (t * 4096 + l * 256 + x) = l := by unfold lowI; omega
theorem U_entry {f i : Int} (h : entO f i = true) : U (f * 256 + 8 * i) := by
  have := of_decide_eq_true h
  unfold U
  omega
theorem pt_facts (f t l F : Int) (f0 : 0 ≤ f) (f1 : f ≤ 255) (t0 : 0 ≤ t) (t1 : t < 16) (l0 : 0 ≤ l) (l1 : l < 16) (F0 : 128 ≤ F) (F1 : F ≤ 255) :
    (wkS (wrZ (fun _ => 0) (1 * 256 + 8 * t) 8 (makI F 1)) 1 (t * 4096 + l * 256)).c = 2 ∧
    (wkS (wrZ (wrZ (wrZ (fun _ => 0) (1 * 256 + 8 * t) 8 (makI F 1)) (1 * 256 + 8 * t) 8 (makI 2 1)) (2 * 256 + 8 * l) 8 (makI f 1)) 1 (t * 4096 + l * 256)).c = 1 ∧
    (wkS (wrZ (wrZ (wrZ (wrZ (fun _ => 0) (1 * 256 + 8 * t) 8 (makI F 1)) (1 * 256 + 8 * t) 8 (makI 2 1)) (2 * 256 + 8 * l) 8 (makI f 1)) (2 * 256 + 8 * l) 8 (makI f 3)) 1 (t * 4096 + l * 256)).c = 0 ∧
    (wkS (wrZ (wrZ (wrZ (wrZ (fun _ => 0) (1 * 256 + 8 * t) 8 (makI F 1)) (1 * 256 + 8 * t) 8 (makI 2 1)) (2 * 256 + 8 * l) 8 (makI f 1)) (2 * 256 + 8 * l) 8 (makI f 3)) 1 (t * 4096 + l * 256)).e = makI f 3 := by
  have o1 : entO 1 t = true := decide_eq_true (by omega)
  have o2 : entO 2 l = true := decide_eq_true (by omega)
  have o3 : entO F l = false := decide_eq_false (by omega)
  have ht : topI (t * 4096 + l * 256) = t := by have := pl_top (x := 0) l0 l1 (by omega) (by omega) t0 t1; rwa [Int.add_zero] at this
  have hl : lowI (t * 4096 + l * 256) = l := by have := pl_low (t := t) (x := 0) l0 l1 (by omega) (by omega); rwa [Int.add_zero] at this
  have hlt : t * 4096 + l * 256 < 65536 := by omega
  have n1 : leafE (makI f 1) = false := by
    rw [made_leaf f0 f1 (by omega) (by omega), made_is f0 f1 (by omega) (by omega)]; decide
  have n3 : leafE (makI f 3) = true := by
    rw [made_leaf f0 f1 (by omega) (by omega), made_is f0 f1 (by omega) (by omega)]; decide
  have u1 := U_made F 1
  have u2 := U_made 2 1
  have u3 := U_made f 1
  have u4 := U_made f 3
  have g1 : entE (wrZ (fun _ => 0) (1 * 256 + 8 * t) 8 (makI F 1)) 1 t = makI F 1 := by rw [ent_wr o1 u1, if_pos ⟨rfl, rfl⟩]
  refine ⟨?_, ?_, ?_⟩
  · rw [wk_two hlt (by rw [ht]; exact o1) (by rw [ht]; exact g1) (by omega) F1, hl, if_pos o3]
  · generalize hB : wrZ (fun _ => 0) (1 * 256 + 8 * t) 8 (makI F 1) = B
    have g2 : entE (wrZ (wrZ B (1 * 256 + 8 * t) 8 (makI 2 1)) (2 * 256 + 8 * l) 8 (makI f 1)) 1 t = makI 2 1 := by
      rw [ent_wr o2 u3, if_neg (by omega), ent_wr o1 u2, if_pos ⟨rfl, rfl⟩]
    have g3 : entE (wrZ (wrZ B (1 * 256 + 8 * t) 8 (makI 2 1)) (2 * 256 + 8 * l) 8 (makI f 1)) 2 l = makI f 1 := by rw [ent_wr o2 u3, if_pos ⟨rfl, rfl⟩]
    rw [wk_two hlt (by rw [ht]; exact o1) (by rw [ht]; exact g2) (by omega) (by omega), hl, if_neg (by rw [o2]; simp), g3, n1, if_neg (by simp)]
  · generalize hB : wrZ (fun _ => 0) (1 * 256 + 8 * t) 8 (makI F 1) = B
    have g2 : entE (wrZ (wrZ (wrZ B (1 * 256 + 8 * t) 8 (makI 2 1)) (2 * 256 + 8 * l) 8 (makI f 1)) (2 * 256 + 8 * l) 8 (makI f 3)) 1 t = makI 2 1 := by
      rw [ent_wr o2 u4, if_neg (by omega), ent_wr o2 u3, if_neg (by omega), ent_wr o1 u2, if_pos ⟨rfl, rfl⟩]
    have g3 : entE (wrZ (wrZ (wrZ B (1 * 256 + 8 * t) 8 (makI 2 1)) (2 * 256 + 8 * l) 8 (makI f 1)) (2 * 256 + 8 * l) 8 (makI f 3)) 2 l = makI f 3 := by rw [ent_wr o2 u4, if_pos ⟨rfl, rfl⟩]
    have hw := wk_two (B := wrZ (wrZ (wrZ B (1 * 256 + 8 * t) 8 (makI 2 1)) (2 * 256 + 8 * l) 8 (makI f 1)) (2 * 256 + 8 * l) 8 (makI f 3)) hlt (by rw [ht]; exact o1) (by rw [ht]; exact g2) (by omega) (by omega)
    rw [hl, if_neg (by rw [o2]; simp), g3, n3, if_pos rfl] at hw
    rw [hw]
    exact ⟨rfl, rfl⟩
set_option maxHeartbeats 2000000 in
theorem wpoint_any (f tt ll : Int) (f0 : 0 ≤ f) (f1 : f ≤ 255) (tt0 : 0 ≤ tt) (tt1 : tt ≤ 255) (ll0 : 0 ≤ ll) (ll1 : ll ≤ 255) {W : World} (hT : Tab11 W) :
    Calls Try.prog 7 #[.int .u8 f, .int .u8 tt, .int .u8 ll] W fun e w' => e = .returned (.bool true) ∧ Kept W w' := by
  have hq : (makI f 3 == makI f 3) = true := beq_self_eq_true _
  obtain ⟨F0, F1⟩ := or_128 f0 f1
  have t0 : 0 ≤ tt % 16 := by omega
  have t1 : tt % 16 < 16 := by omega
  have l0 : 0 ≤ ll % 16 := by omega
  have l1 : ll % 16 < 16 := by omega
  have ho := or_place t0 t1 l0 l1
  obtain ⟨r1, r2, r3, r4⟩ := pt_facts f (tt % 16) (ll % 16) (bits .or .i64 f 128) f0 f1 t0 t1 l0 l1 F0 F1
  have q1 : U (1 * 256 + 8 * (tt % 16)) := by unfold U; omega
  have q2 : U (2 * 256 + 8 * (ll % 16)) := by unfold U; omega
  have qa : U (tt % 16 * 4096 + ll % 16 * 256) := by unfold U; omega
  have x1 : 256 + 8 * (tt % 16) = 1 * 256 + 8 * (tt % 16) := by omega
  have x2 : 512 + 8 * (ll % 16) = 2 * 256 + 8 * (ll % 16) := by omega
  have o1 : entO 1 (tt % 16) = true := decide_eq_true (by omega)
  have o2 : entO 2 (ll % 16) = true := decide_eq_true (by omega)
  generalize hF : bits .or .i64 f 128 = F at *
  go_enter Try.func7, Try.ntmps7
  go_wp2_with fail
  refine (known11_any hT (Only.refl _ W)).mono ?_
  rintro e w1 ⟨rfl, k1⟩
  go_wp2_with fail
  refine (new_from k1).mono ?_
  rintro e w2 ⟨p, q, rfl, s2⟩
  go_wp2_with fail
  refine (rmake_any _ _ _).mono ?_
  rintro e w' ⟨rfl, rfl⟩
  go_wp2_with fail
  refine (write_from s2 _ _ _ q1).mono ?_
  rintro e w3 ⟨rfl, s3⟩
  go_wp2_with fail
  refine (wwlk_from hT s3 _ _ qa).mono ?_
  rintro e w4 ⟨rfl, s4⟩
  rw [r1]
  clear r1
  go_wp2_with fail
  refine (rmake_any _ _ _).mono ?_
  rintro e w' ⟨rfl, rfl⟩
  go_wp2_with fail
  refine (write_from s4 _ _ _ q1).mono ?_
  rintro e w5 ⟨rfl, s5⟩
  go_wp2_with fail
  refine (rmake_any _ _ _).mono ?_
  rintro e w' ⟨rfl, rfl⟩
  go_wp2_with fail
  refine (write_from s5 _ _ _ q2).mono ?_
  rintro e w6 ⟨rfl, s6⟩
  go_wp2_with fail
  refine (wwlk_from hT s6 _ _ qa).mono ?_
  rintro e w7 ⟨rfl, s7⟩
  rw [r2]
  clear r2
  go_wp2_with fail
  refine (rmake_any _ _ _).mono ?_
  rintro e w' ⟨rfl, rfl⟩
  go_wp2_with fail
  refine (write_from s7 _ _ _ q2).mono ?_
  rintro e w8 ⟨rfl, s8⟩
  go_wp2_with fail
  refine (wwlk_from hT s8 _ _ qa).mono ?_
  rintro e w9 ⟨rfl, s9⟩
  rw [r3, r4]
  clear r3 r4
  go_wp2_with fail
  refine (rmake_any _ _ _).mono ?_
  rintro e w' ⟨rfl, rfl⟩
  go_wp2
  go_ret
  exact ⟨rfl, s9.k⟩
theorem gr_bits {f : Int} (f0 : 0 ≤ f) (f1 : f ≤ 255) : leafE (makI f 207) = true := by
  rw [made_leaf f0 f1 (by omega) (by omega), made_is f0 f1 (by omega) (by omega)]; decide
theorem gr_add {f i : Int} (f0 : 0 ≤ f) (f1 : f ≤ 112) (i0 : 0 ≤ i) (i1 : i < 16) : makI f 207 + i * 256 = makI (f + i) 207 := by unfold makI; omega
theorem gr_one (f t i : Int) (f0 : 0 ≤ f) (f1 : f ≤ 112) (hf : f % 16 = 0) (t0 : 0 ≤ t) (t1 : t < 16) (i0 : 0 ≤ i) (i1 : i < 16) :
    (wkS (wrZ (fun _ => 0) (1 * 256 + 8 * t) 8 (makI f 207)) 1 (t * 4096 + i * 256 + 5)).c = 0 ∧ (wkS (wrZ (fun _ => 0) (1 * 256 + 8 * t) 8 (makI f 207)) 1 (t * 4096 + i * 256 + 5)).e = makI (f + i) 207 := by
  have o1 : entO 1 t = true := decide_eq_true (by omega)
  have ht : topI (t * 4096 + i * 256 + 5) = t := pl_top i0 i1 (by omega) (by omega) t0 t1
  have hl : lowI (t * 4096 + i * 256 + 5) = i := pl_low i0 i1 (by omega) (by omega)
  rw [wk_one (f := f) (b := 207) (by omega) (by rw [ht]; exact o1) (by rw [ht, ent_wr o1 (U_made _ _), if_pos ⟨rfl, rfl⟩]) f0 (by omega) (gr_bits f0 (by omega)), if_pos hf, hl, gr_add f0 f1 i0 i1]
  exact ⟨rfl, rfl⟩
theorem gr_awry (f t k : Int) (f0 : 0 ≤ f) (f1 : f ≤ 112) (hf : f % 16 = 0) (t0 : 0 ≤ t) (t1 : t < 16) (k0 : 1 ≤ k) (k1 : k < 16) :
    (wkS (wrZ (wrZ (fun _ => 0) (1 * 256 + 8 * t) 8 (makI f 207)) (1 * 256 + 8 * t) 8 (makI (f + k) 207)) 1 (t * 4096)).c = 1 := by
  have o1 : entO 1 t = true := decide_eq_true (by omega)
  have ht : topI (t * 4096) = t := by unfold topI; omega
  rw [wk_one (f := f + k) (b := 207) (by omega) (by rw [ht]; exact o1) (by rw [ht, ent_wr o1 (U_made _ _), if_pos ⟨rfl, rfl⟩]) (by omega) (by omega) (gr_bits (by omega) (by omega)), if_neg (by omega)]
set_option maxHeartbeats 2000000 in
theorem wgreat_any (ff tt aa : Int) (f0 : 0 ≤ ff) (f1 : ff ≤ 255) (tt0 : 0 ≤ tt) (tt1 : tt ≤ 255) (aa0 : 0 ≤ aa) (aa1 : aa ≤ 255) {W : World} (hT : Tab11 W) :
    Calls Try.prog 5 #[.int .u8 ff, .int .u8 tt, .int .u8 aa] W fun e w' => e = .returned (.bool true) ∧ Kept W w' := by
  have g0 : 0 ≤ ff % 8 * 16 := by omega
  have g1 : ff % 8 * 16 ≤ 112 := by omega
  have g2 : ff % 8 * 16 % 16 = 0 := by omega
  have t0 : 0 ≤ tt % 16 := by omega
  have t1 : tt % 16 < 16 := by omega
  have a0 : 1 ≤ aa % 15 + 1 := by omega
  have a1 : aa % 15 + 1 < 16 := by omega
  have q1 : U (1 * 256 + 8 * (tt % 16)) := by unfold U; omega
  have qa : U (tt % 16 * 4096) := by unfold U; omega
  have x1 : 256 + 8 * (tt % 16) = 1 * 256 + 8 * (tt % 16) := by omega
  have o1 : entO 1 (tt % 16) = true := decide_eq_true (by omega)
  have hc : codeI (1 * 256 + 8 * (tt % 16)) 8 = 0 := ent_code o1
  have hone := gr_one (ff % 8 * 16) (tt % 16)
  have haw := gr_awry (ff % 8 * 16) (tt % 16) (aa % 15 + 1) g0 g1 g2 t0 t1 a0 a1
  go_enter Try.func5, Try.ntmps5
  go_wp2_with fail
  refine (known11_any hT (Only.refl _ W)).mono ?_
  rintro e w1 ⟨rfl, k1⟩
  go_wp2_with fail
  refine (new_from k1).mono ?_
  rintro e w2 ⟨p, q, rfl, s2⟩
  go_wp2_with fail
  refine (rmake_any _ _ _).mono ?_
  rintro e w' ⟨rfl, rfl⟩
  go_wp2_with fail
  refine (write_from s2 _ _ _ q1).mono ?_
  rintro e w3 ⟨rfl, s3⟩
  rw [hc]
  go_wp2
  go_loopw [10] (fun i wr => ∃ k : Nat, k ≤ 16 ∧ i = .int .i64 (k : Int) ∧ St W wr p q (wrZ (fun _ => 0) (1 * 256 + 8 * (tt % 16)) 8 (makI (ff % 8 * 16) 207))) (fun i _ => 16 - (intOf i).toNat)
  case atStart => exact ⟨0, by omega, rfl, s3⟩
  case round =>
    obtain ⟨k, hk, rfl, s4⟩ := hrel
    by_cases hlt : k < 16
    · have hk0 : (0 : Int) ≤ (k : Int) := by omega
      have hk1 : (k : Int) < 16 := by omega
      obtain ⟨w1, w2⟩ := hone (k : Int) g0 g1 g2 t0 t1 hk0 hk1
      have qk : U (tt % 16 * 4096 + (k : Int) * 256 + 5) := by unfold U; omega
      have hq : (makI (ff % 8 * 16 + (k : Int)) 207 == makI (ff % 8 * 16 + (k : Int)) 207) = true := beq_self_eq_true _
      clear hone haw
      go_wp2_with fail
      refine (wwlk_from hT s4 _ _ qk).mono ?_
      rintro e w5 ⟨rfl, s5⟩
      rw [w1, w2]
      go_wp2_with fail
      refine (rmake_any _ _ _).mono ?_
      rintro e w' ⟨rfl, rfl⟩
      go_wp2
      exact ⟨⟨k + 1, by omega, by go_num, s5⟩, by simp [intOf]; omega⟩
    · obtain rfl : k = 16 := by omega
      clear hone
      go_wp2_with fail
      refine (rmake_any _ _ _).mono ?_
      rintro e w' ⟨rfl, rfl⟩
      go_wp2_with fail
      refine (write_from s4 _ _ _ q1).mono ?_
      rintro e w5 ⟨rfl, s5⟩
      go_wp2_with fail
      refine (wwlk_from hT s5 _ _ qa).mono ?_
      rintro e w6 ⟨rfl, s6⟩
      rw [haw]
      go_wp2
      go_ret
      exact ⟨rfl, s6.k⟩
end Go.Proofs.Ytagfhfmaonoehaa
