/-
  What statement WordTells asks, walked: package word answers as the document's words do, for every argument; a text of more than 60 bytes is not asked about.
-/
import Derived.Test.YtnmlkhecjohepaaRefPlain
import Derived.Test.YtnmlkhecjohepaaRefGet
import Derived.Test.YtnmlkhecjohepaaRefBytes
namespace Go.Proofs.Ytnmlkhecjohepaa
open Go.RowKit
structure KK (a b : World) : Prop where
  k : a.keptBut b (fun _ => False)
  s : a.heap.size ≤ b.heap.size
theorem KK.trans {a b c : World} (h : KK a b) (g : KK b c) : KK a c := ⟨World.keptBut_trans h.k (World.keptBut_mono (fun _ f => f.elim) g.k), Nat.le_trans h.s g.s⟩
theorem KK.of_grown {a b : World} (h : Grown a b) : KK a b := ⟨h.1, h.2.2⟩
theorem KK.of_below {a b : World} (h : Below a.heap.size a b) : KK a b := ⟨h.frame _, h.size⟩
set_option linter.unusedVariables false in
set_option maxHeartbeats 1000000 in
theorem tells_long (v x lo n : Int) (b : ByteArray) (a : Int) (hb : (60 : Int) < (b.size : Int)) (w : World) :
    Calls Try.prog 3 #[.int .u64 v, .int .u64 x, .int .i64 lo, .int .i64 n, .string b, .int .i64 a] w fun e w' => e = .returned (.bool true) ∧ KK w w' := by
  go_enter Try.func3, Try.ntmps3
  go_wp2_with (go_at_call 9; refine (known_any _).mono ?_; rintro e w1 ⟨rfl, hg1⟩)
  go_ret
  exact ⟨rfl, KK.of_grown hg1⟩
set_option linter.unusedVariables false in
set_option maxHeartbeats 1000000 in
theorem tells_short (v x lo n : Int) (b : ByteArray) (a : Int) (hv : U v) (hx : U x) (hb : b.size ≤ 60) (hb' : (b.size : Int) ≤ 60) (ha : -9223372036854775808 ≤ a) (ha' : a ≤ 9223372036854775807) (w : World) :
    Calls Try.prog 3 #[.int .u64 v, .int .u64 x, .int .i64 lo, .int .i64 n, .string b, .int .i64 a] w fun e w' => e = .returned (.bool true) ∧ KK w w' := by
  go_enter Try.func3, Try.ntmps3
  go_wp2_with fail
  refine (known_any _).mono ?_
  rintro e w1 ⟨rfl, hg1⟩
  go_wp2_with (first | (go_at_call 10; refine (sext_any _ _ _).mono ?_; rintro e w' ⟨rfl, rfl⟩) | (go_at_call 11; refine (rsext_any hv _ _).mono ?_; rintro e w' ⟨rfl, rfl⟩) | (go_at_call 12; refine (zext_any _ _ _).mono ?_; rintro e w' ⟨rfl, rfl⟩) | (go_at_call 13; refine (rzext_any hv _ _).mono ?_; rintro e w' ⟨rfl, rfl⟩) | (go_at_call 14; refine (bits_any _ _ _ _).mono ?_; rintro e w' ⟨rfl, rfl⟩) | (go_at_call 15; refine (rbits_any _ _ _ _).mono ?_; rintro e w' ⟨rfl, rfl⟩) | (go_at_call 16; refine (set_any _ _ _ _ _).mono ?_; rintro e w' ⟨rfl, rfl⟩) | (go_at_call 17; refine (rset_any' hv hx _ _ _).mono ?_; rintro e w' ⟨rfl, rfl⟩))
  refine (get_any _ _ _ ha' _).mono ?_
  rintro e w2 ⟨rfl, hg2⟩
  go_wp2_with fail
  refine (rget_any _ _ _ hb ha ha' _).mono ?_
  rintro e w3 ⟨rfl, rfl⟩
  go_wp2_with fail
  refine (bytes_any _ _ _).mono ?_
  rintro e w4 ⟨rfl, hg4⟩
  go_wp2_with fail
  refine (rbytes_any _ _ _).mono ?_
  rintro e w5 ⟨rfl, hg5⟩
  go_wp2_with fail
  refine (high_any _ _ _).mono ?_
  rintro e w6 ⟨rfl, rfl⟩
  go_wp2_with fail
  refine (less_any _ _ _).mono ?_
  rintro e w7 ⟨rfl, rfl⟩
  go_wp2_with fail
  go_ret
  exact ⟨rfl, (KK.of_grown hg1).trans ((KK.of_grown hg2).trans ((KK.of_grown hg4).trans (KK.of_below hg5)))⟩
theorem tells_any (v x lo n : Int) (b : ByteArray) (a : Int) (hv : U v) (hx : U x) (ha : -9223372036854775808 ≤ a) (ha' : a ≤ 9223372036854775807) (w : World) :
    Calls Try.prog 3 #[.int .u64 v, .int .u64 x, .int .i64 lo, .int .i64 n, .string b, .int .i64 a] w fun e w' => e = .returned (.bool true) ∧ KK w w' := by
  by_cases hb : b.size ≤ 60
  · exact tells_short v x lo n b a hv hx hb (by omega) ha ha' w
  · exact tells_long v x lo n b a (by omega) w
end Go.Proofs.Ytnmlkhecjohepaa
