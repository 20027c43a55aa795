/-
  The calls of package walk, handed on from one to the next: one memory that the call itself made; the examples that every statement of layer 11 asks first (known) hold.
-/
import Derived.Test.YtagfhfmaonoehaaTWalk
namespace Go.Proofs.Ytagfhfmaonoehaa
open Go.RowKit
section
variable {W w : World} {p q : Nat} {B : Nat → Int}
theorem went_from (hT : Tab11 W) (h : St W w p q B) (f i : Int) :
    Calls Try.prog 13 #[.pointer (some ⟨p, 0, none⟩), .int .i64 f, .int .i64 i] w fun e w' => e = .returned (.tuple #[.int .u64 (entE B f i), .bool (entO f i)]) ∧ St W w' p q B :=
  (wentry_any (hT.kept h.k) h.m f i).mono fun _ _ x => ⟨x.1, h.kept x.2⟩
theorem wwlk_from (hT : Tab11 W) (h : St W w p q B) (root a : Int) (ha : U a) :
    Calls Try.prog 11 #[.pointer (some ⟨p, 0, none⟩), .int .i64 root, .int .u64 a] w fun e w' => e = .returned (.tuple #[.int .u64 (wkS B root a).e, .int .i64 (wkS B root a).c]) ∧ St W w' p q B :=
  (wwalk_any (hT.kept h.k) h.m root a ha).mono fun _ _ x => ⟨x.1, h.kept x.2⟩
theorem wnil_from (hT : Tab11 W) (h : St W w p q B) (root a : Int) (ha : U a) :
    Calls Try.prog 11 #[.pointer none, .int .i64 root, .int .u64 a] w fun e w' => e = .returned (.tuple #[.int .u64 (wkS (fun _ => 0) root a).e, .int .i64 (wkS (fun _ => 0) root a).c]) ∧ St W w' p q B :=
  (wwalk_nil (hT.kept h.k) root a ha).mono fun _ _ x => ⟨x.1, h.kept x.2⟩
theorem wlay_from (hT : Tab11 W) (h : St W w p q B) (root low page e : Int) (he : U e) :
    Calls Try.prog 17 #[.pointer (some ⟨p, 0, none⟩), .int .i64 root, .int .i64 low, .int .i64 page, .int .u64 e] w fun r w' => r = .returned (.int .i64 (bif layO root low then 0 else 60)) ∧ St W w' p q (layT B root low page e) :=
  (wlay_any (hT.kept h.k) h.m root low page e he).mono fun _ _ x => ⟨x.1, x.2.1, h.k.new x.2.2 (fun i hi => by rw [hi]; exact h.hq), h.hp, h.hq⟩
end
theorem U_lit11 {n : Int} (h : (decide (0 ≤ n) && decide (n < 18446744073709551616)) = true) : U n := by
  unfold U; simpa using h
def kB : Nat → Int := layT (fun _ => 0) 1 2 5 1999
theorem v1 : makI 7 207 = 1999 := by decide +kernel
theorem v2 : layO 1 2 = true := by decide
theorem v3 : layO 1 128 = false := by decide
theorem v4 : layT kB 1 128 5 1999 = kB := by unfold layT; rw [v3]; rfl
theorem v5 : (wkS kB 1 1298).e = 1999 ∧ (wkS kB 1 1298).c = 0 := by decide +kernel
theorem v6 : (wkS kB 1 1554).c = 1 := by decide +kernel
theorem v7 : (wkS kB 200 0).c = 2 := by decide +kernel
theorem v8 : entE kB 2 5 = 1999 ∧ entO 2 5 = true := by decide +kernel
theorem v9 : entO 2 16 = false := by decide
set_option maxHeartbeats 1000000 in
theorem known11_any {W w : World} (hT : Tab11 W) (k : Kept W w) :
    Calls Try.prog 8 #[] w fun e w' => e = .returned (.bool true) ∧ Kept W w' := by
  have u0 : U 1999 := U_lit11 (by decide)
  have u1 : U 1298 := U_lit11 (by decide)
  have u2 : U 1554 := U_lit11 (by decide)
  have u3 : U 0 := U_lit11 (by decide)
  go_enter Try.func8, Try.ntmps8
  go_wp2_with fail
  refine (new_from k).mono ?_
  rintro e w1 ⟨p, q, rfl, s1⟩
  go_wp2_with fail
  refine (rmake_any _ _ _).mono ?_
  rintro e w' ⟨rfl, rfl⟩
  rw [v1]
  go_wp2_with fail
  refine (wlay_from hT s1 _ _ _ _ u0).mono ?_
  rintro e w2 ⟨rfl, s2⟩
  rw [v2, cond_true]
  rw [show layT (fun _ => 0) 1 2 5 1999 = kB from rfl] at s2
  go_wp2_with fail
  refine (wlay_from hT s2 _ _ _ _ u0).mono ?_
  rintro e w3 ⟨rfl, s3⟩
  rw [v3, cond_false]
  rw [v4] at s3
  go_wp2_with fail
  refine (wwlk_from hT s3 _ _ u1).mono ?_
  rintro e w4 ⟨rfl, s4⟩
  rw [v5.1, v5.2]
  go_wp2_with fail
  refine (wwlk_from hT s4 _ _ u2).mono ?_
  rintro e w5 ⟨rfl, s5⟩
  rw [v6]
  go_wp2_with fail
  refine (wwlk_from hT s5 _ _ u3).mono ?_
  rintro e w6 ⟨rfl, s6⟩
  rw [v7]
  go_wp2_with fail
  refine (went_from hT s6 _ _).mono ?_
  rintro e w7 ⟨rfl, s7⟩
  rw [v8.1, v8.2]
  go_wp2_with fail
  refine (went_from hT s7 _ _).mono ?_
  rintro e w8 ⟨rfl, s8⟩
  rw [v9]
  go_wp2
  go_ret
  exact ⟨rfl, s8.k⟩
end Go.Proofs.Ytagfhfmaonoehaa
