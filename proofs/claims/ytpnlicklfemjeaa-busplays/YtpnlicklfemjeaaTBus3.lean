/-
  What package bus's New, Write, Type, Output, SetTime, Timer and Mem do (the landed package's): walked whole, for every argument.
-/
import Derived.Test.YtpnlicklfemjeaaTBus2
import Derived.Laws.Tables
namespace Go.Proofs.Ytpnlicklfemjeaa
open Go.RowKit
/-- The cells of a new bus. -/
def newF (p : Nat) (i : Nat) : Value := if i = 0 then .pointer (some ⟨p, 0, none⟩) else if i = 1 ∨ i = 527 then .int .u64 0 else if i = 2 then .int .u64 18446744073709551615 else if (i - 3) % 131 = 64 ∨ (i - 3) % 131 = 65 ∨ (i - 3) % 131 = 130 then .int .i64 0 else .int .u8 0
def rowOf (n : Nat) (F : Nat → Value) : Array Value := ((List.range n).map F).toArray
theorem rowOf_size (n : Nat) (F : Nat → Value) : (rowOf n F).size = n := by simp [rowOf]
theorem rowOf_at {n : Nat} {F : Nat → Value} {i : Nat} (h : i < n) : (rowOf n F)[i]? = some (F i) := by simp [rowOf, h]
theorem row_alloc (w : World) (n : Nat) (F : Nat → Value) (T : TypeId) : (w.alloc (.cells (rowOf n F) T)).rowIs w.heap.size T n F := by
  have h := World.rowIs_alloc w (rowOf n F) T F (fun i hi => rowOf_at (by rwa [rowOf_size] at hi))
  rwa [rowOf_size] at h
theorem wpList_built {P : Program} {ops : Array Oper} {rest : List Oper} {o : Oper} {a : Act} {w : World} {Q : Exit → Act → World → Prop} (hg : o.guard = none) (t : TypeId) (parts : Array (Nat × Operand)) (ho : o.op = .build t parts)
    (cells : Array Value) (hf : P.built t (parts.map fun (i, x) => (i, a.eval x)).toList = some cells)
    (h : wpList P ops Q rest (a.put o.dst (.agg cells)) w) : wpList P ops Q (o :: rest) a w :=
  wpList_build hg t parts ho (by rw [hf]; rfl) (by rw [hf]; exact h)
theorem newF_port (p k : Nat) (hk : k < 4) : PortF (newF p) (3 + 131 * k) .new := by
  refine ⟨.new, fun _ => 0, fun _ => 0, 0, fun i hi => ?_, ?_, ?_, rfl, fun j x hx => (by simp [Prt.new] at hx), fun i hi => ?_, ?_, fun j x hx => (by simp [Prt.new] at hx)⟩
  · unfold newF; rw [if_neg (by omega), if_neg (by omega), if_neg (by omega), if_neg (by omega)]; rfl
  · unfold newF; rw [if_neg (by omega), if_neg (by omega), if_neg (by omega), if_pos (by omega)]; rfl
  · unfold newF; rw [if_neg (by omega), if_neg (by omega), if_neg (by omega), if_pos (by omega)]; rfl
  · unfold newF; rw [if_neg (by omega), if_neg (by omega), if_neg (by omega), if_neg (by omega)]; rfl
  · unfold newF; rw [if_neg (by omega), if_neg (by omega), if_neg (by omega), if_pos (by omega)]; rfl
theorem bus_new {w : World} {p q : Nat} {B : Nat → Int} (hm : ProgAt w p q B) : BusAt (w.alloc (.cells (rowOf 528 (newF p)) 66)) w.heap.size p q (.new B) := by
  have hl := hm.lt
  exact ⟨newF p, row_alloc w 528 (newF p) _, ⟨rfl, rfl, rfl, fun k hk => newF_port p k hk, 0, rfl⟩, hm.kept ((Only.refl _ w).alloc _), by omega, by omega⟩
set_option maxRecDepth 10000 in
set_option maxHeartbeats 1000000 in
theorem bnew_of (w : World) (p q : Nat) (B : Nat → Int) (hm : ProgAt w p q B) :
    Calls Try.prog 9 #[.pointer (some ⟨p, 0, none⟩)] w fun e w' => ∃ b, e = .returned (.pointer (some ⟨b, 0, none⟩)) ∧ BusAt w' b p q (.new B) ∧ w.heap.size ≤ b ∧ Kept w w' := by
  go_enter Try.func9, Try.ntmps9
  go_wp2_with (refine wpList_built rfl 66 _ rfl (rowOf 528 (newF p)) (by kernel_rfl) ?_)
  go_ret
  exact ⟨_, rfl, bus_new hm, Nat.le_refl _, (Only.refl _ w).alloc _⟩
set_option maxRecDepth 10000 in
set_option maxHeartbeats 1000000 in
theorem bnew_any (w : World) :
    Calls Try.prog 9 #[.pointer none] w fun e w' => ∃ b p q, e = .returned (.pointer (some ⟨b, 0, none⟩)) ∧ BusAt w' b p q (.new (fun _ => 0)) ∧ w.heap.size ≤ b ∧ w.heap.size ≤ p ∧ w.heap.size ≤ q ∧ Kept w w' := by
  go_enter Try.func9, Try.ntmps9
  go_wp2_with fail
  refine (mnew_any w).mono ?_
  rintro e w1 ⟨p, q, rfl, hm, h1, h2, hk⟩
  have hb := bus_new hm
  have hsz := hk.size
  have hk2 := hk.alloc (.cells (rowOf 528 (newF p)) 66)
  go_wp2_with (refine wpList_built rfl 66 _ rfl (rowOf 528 (newF p)) (by kernel_rfl) ?_)
  go_ret
  exact ⟨_, _, _, rfl, hb, hsz, h1, h2, hk2⟩
section
variable {w : World} {b p q : Nat} {F : Nat → Value} {M : BusM}
theorem wr_mem {a n v : Int} (h : ¬ devB a = true) : wrB a n = (codeI a n == 0) ∧ wrN M a n v = ⟨M.t, M.a, M.P, wrZ M.B a n v⟩ := by
  obtain ⟨h1, h2, h3⟩ := dev_of h
  refine ⟨?_, ?_⟩
  · unfold wrB
    apply Bool.eq_iff_iff.2
    simp [h1, h3]
  · unfold wrN
    by_cases hc : codeI a n = 0
    · rw [if_pos hc]
    · rw [if_neg hc, if_neg (fun e => h3 e.1), if_neg (fun e => h1 e.1)]
      unfold wrZ
      rw [if_neg hc]
set_option maxHeartbeats 1000000 in
theorem bwrite_mem (a n v : Int) (ha : U a) (hd : ¬ devB a = true) (h : BusC w b p q F M) :
    Calls Try.prog 15 #[.pointer (some ⟨b, 0, none⟩), .int .u64 a, .int .i64 n, .int .u64 v] w fun e w' => e = .returned (.bool (wrB a n)) ∧ BusAt w' b p q (wrN M a n v) ∧ Only (fun i => i = b ∨ i = q) w w' := by
  obtain ⟨e1, e2⟩ := wr_mem (M := M) (n := n) (v := v) hd
  rw [e1, e2]
  have hd' : devB a = false := by simpa using hd
  have c0 := h.c0
  go_enter Try.func15, Try.ntmps15
  go_wp2_with first | (go_at_call 23; refine (dev_any _ _ _).mono ?_; rintro e w' ⟨rfl, rfl⟩) | (go_at_call 29; refine (mwrite_any a n v ha _ p q M.B h.m).mono ?_; rintro e w' ⟨rfl, hm, hk⟩)
  go_ret
  exact ⟨rfl, ⟨F, h.row.of_block (hk.same b h.row.lt h.bq), ⟨h.f.mem, h.f.time, h.f.alarm, h.f.port, h.f.reads⟩, hm, h.bp, h.bq⟩, hk.mono fun _ e => .inr e⟩
theorem BusC.set2 (h : BusC w b p q F M) (v : Int) : BusAt (w.setCell ⟨b, 2, none⟩ (.int .u64 v)) b p q ⟨M.t, v, M.P, M.B⟩ ∧ Only (fun i => i = b ∨ i = q) w (w.setCell ⟨b, 2, none⟩ (.int .u64 v)) := by
  obtain ⟨r, hr⟩ := h.f.reads
  refine ⟨⟨_, h.row.set 2 _, ⟨?_, ?_, ?_, fun k hk => ?_, r, ?_⟩, h.m.carry ((Only.refl (fun i => i = b) w).setCell rfl _) (Ne.symm h.bp) (Ne.symm h.bq), h.bp, h.bq⟩, (Only.refl _ w).setCell (.inl rfl) _⟩
  · rw [if_neg (by omega)]; exact h.f.mem
  · rw [if_neg (by omega)]; exact h.f.time
  · rw [if_pos rfl]
  · exact (h.f.port k hk).congr fun i h1 h2 => if_neg (by omega)
  · rw [if_neg (by omega)]; exact hr
theorem BusC.set1 (h : BusC w b p q F M) (v : Int) : BusAt (w.setCell ⟨b, 1, none⟩ (.int .u64 v)) b p q ⟨v, M.a, M.P, M.B⟩ ∧ Only (fun i => i = b ∨ i = q) w (w.setCell ⟨b, 1, none⟩ (.int .u64 v)) := by
  obtain ⟨r, hr⟩ := h.f.reads
  refine ⟨⟨_, h.row.set 1 _, ⟨?_, ?_, ?_, fun k hk => ?_, r, ?_⟩, h.m.carry ((Only.refl (fun i => i = b) w).setCell rfl _) (Ne.symm h.bp) (Ne.symm h.bq), h.bp, h.bq⟩, (Only.refl _ w).setCell (.inl rfl) _⟩
  · rw [if_neg (by omega)]; exact h.f.mem
  · rw [if_pos rfl]
  · rw [if_neg (by omega)]; exact h.f.alarm
  · exact (h.f.port k hk).congr fun i h1 h2 => if_neg (by omega)
  · rw [if_neg (by omega)]; exact hr
set_option maxHeartbeats 1000000 in
theorem bwrite_alarm (v : Int) (h : BusC w b p q F M) :
    Calls Try.prog 15 #[.pointer (some ⟨b, 0, none⟩), .int .u64 61448, .int .i64 8, .int .u64 v] w fun e w' => e = .returned (.bool true) ∧ BusAt w' b p q ⟨M.t, v, M.P, M.B⟩ ∧ Only (fun i => i = b ∨ i = q) w w' := by
  have hd' : devB 61448 = true := by decide
  have c2 := h.c2
  have fz := h.row.frozen 2
  have hpost := h.set2 v
  go_enter Try.func15, Try.ntmps15
  go_wp2_with (go_at_call 23; refine (dev_any _ _ _).mono ?_; rintro e w' ⟨rfl, rfl⟩)
  go_ret
  exact ⟨rfl, hpost⟩
set_option maxHeartbeats 1000000 in
theorem bwrite_port (k : Nat) (hk : k < 4) (v : Int) (h : BusC w b p q F M) :
    Calls Try.prog 15 #[.pointer (some ⟨b, 0, none⟩), .int .u64 (61696 + 256 * (k : Int)), .int .i64 1, .int .u64 v] w fun e w' => e = .returned (.bool true) ∧ BusAt w' b p q ⟨M.t, M.a, upd M.P k ((M.P k).put (u8 v)), M.B⟩ ∧ Only (fun i => i = b ∨ i = q) w w' := by
  have hd' : devB (61696 + 256 * (k : Int)) = true := by unfold devB; exact decide_eq_true (by omega)
  have n2 : (61696 + 256 * (k : Int) == 61448) = false := beq_eq_false_iff_ne.2 (by omega)
  have hw : IntKind.u8.wrap v = ((u8 v).toNat : Int) := by rw [u8_val, IntKind.wrap_u8]
  go_enter Try.func15, Try.ntmps15
  go_wp2_with first | (go_at_call 23; refine (dev_any _ _ _).mono ?_; rintro e w' ⟨rfl, rfl⟩) | (go_at_call 39; refine (portAt_yes k hk _).mono ?_; rintro e w' ⟨rfl, rfl⟩) | (go_at_call 40; refine (put_any (u8 v) h.row (by omega) (h.f.port k hk)).mono ?_; rintro e w' ⟨rfl, hto⟩)
  go_ret
  exact ⟨rfl, h.port_to hk hto⟩
set_option maxHeartbeats 1000000 in
theorem bwrite_nport (k : Nat) (hk : k < 4) (n v : Int) (hn : ¬ n = 1) (w : World) :
    Calls Try.prog 15 #[.pointer (some ⟨b, 0, none⟩), .int .u64 (61696 + 256 * (k : Int)), .int .i64 n, .int .u64 v] w fun e w' => e = .returned (.bool false) ∧ w' = w := by
  have hd' : devB (61696 + 256 * (k : Int)) = true := by unfold devB; exact decide_eq_true (by omega)
  have n2 : (61696 + 256 * (k : Int) == 61448) = false := beq_eq_false_iff_ne.2 (by omega)
  have n3 : (n != 1) = true := by simpa using hn
  go_enter Try.func15, Try.ntmps15
  go_wp2_with first | (go_at_call 23; refine (dev_any _ _ _).mono ?_; rintro e w' ⟨rfl, rfl⟩) | (go_at_call 39; refine (portAt_yes k hk _).mono ?_; rintro e w' ⟨rfl, rfl⟩)
  go_ret
  exact ⟨rfl, rfl⟩
set_option maxHeartbeats 1000000 in
theorem bwrite_none (a n v : Int) (ha : U a) (hd : devB a = true) (hp : ¬ 0 ≤ prtI a) (h2 : ¬ (a = 61448 ∧ n = 8)) (w : World) :
    Calls Try.prog 15 #[.pointer (some ⟨b, 0, none⟩), .int .u64 a, .int .i64 n, .int .u64 v] w fun e w' => e = .returned (.bool false) ∧ w' = w := by
  have hno := portAt_no (b := b) a ha hp
  by_cases e2 : a = 61448
  · have n2 : (n == 8) = false := beq_eq_false_iff_ne.2 (fun e => h2 ⟨e2, e⟩)
    subst e2
    clear h2 hp
    go_enter Try.func15, Try.ntmps15
    go_wp2_with first | (go_at_call 23; refine (dev_any _ _ _).mono ?_; rintro e w' ⟨rfl, rfl⟩) | (go_at_call 39; refine (hno _).mono ?_; rintro e w' ⟨rfl, rfl⟩)
    go_ret
    exact ⟨rfl, rfl⟩
  · have n2 : (a == 61448) = false := beq_eq_false_iff_ne.2 e2
    clear h2 hp e2
    go_enter Try.func15, Try.ntmps15
    go_wp2_with first | (go_at_call 23; refine (dev_any _ _ _).mono ?_; rintro e w' ⟨rfl, rfl⟩) | (go_at_call 39; refine (hno _).mono ?_; rintro e w' ⟨rfl, rfl⟩)
    go_ret
    exact ⟨rfl, rfl⟩
theorem bwrite_any (a n v : Int) (ha : U a) (h : BusAt w b p q M) :
    Calls Try.prog 15 #[.pointer (some ⟨b, 0, none⟩), .int .u64 a, .int .i64 n, .int .u64 v] w fun e w' => e = .returned (.bool (wrB a n)) ∧ BusAt w' b p q (wrN M a n v) ∧ Only (fun i => i = b ∨ i = q) w w' := by
  obtain ⟨F, h⟩ := h
  by_cases hd : devB a = true
  · have hc := dev_far (n := n) hd
    by_cases hp : 0 ≤ prtI a
    · obtain ⟨k, hk, e, rfl⟩ := prt_yes hp
      by_cases hn : n = 1
      · subst hn
        have hB : wrB (61696 + 256 * (k : Int)) 1 = true := by unfold wrB; exact decide_eq_true (.inr (.inr ⟨hp, rfl⟩))
        have hN : wrN M (61696 + 256 * (k : Int)) 1 v = ⟨M.t, M.a, upd M.P k ((M.P k).put (u8 v)), M.B⟩ := by unfold wrN; rw [if_neg hc, if_neg (by omega), if_pos ⟨hp, rfl⟩, e, Int.toNat_natCast]
        rw [hB, hN]
        exact bwrite_port k hk v h
      · have hB : wrB (61696 + 256 * (k : Int)) n = false := by unfold wrB; exact decide_eq_false (by rintro (x | x | x); exact hc x; omega; exact hn x.2)
        have hN : wrN M (61696 + 256 * (k : Int)) n v = M := by unfold wrN; rw [if_neg hc, if_neg (by omega), if_neg (fun x => hn x.2)]
        rw [hB, hN]
        exact (bwrite_nport k hk n v hn w).mono fun _ _ ⟨h1, h2⟩ => ⟨h1, h2 ▸ h.at, h2 ▸ Only.refl _ _⟩
    · by_cases h2 : a = 61448 ∧ n = 8
      · obtain ⟨rfl, rfl⟩ := h2
        have hB : wrB 61448 8 = true := by decide
        have hN : wrN M 61448 8 v = ⟨M.t, v, M.P, M.B⟩ := by unfold wrN; rw [if_neg hc, if_pos ⟨rfl, rfl⟩]
        rw [hB, hN]
        exact bwrite_alarm v h
      · have hB : wrB a n = false := by unfold wrB; exact decide_eq_false (by rintro (x | x | x); exact hc x; exact h2 x; exact hp x.1)
        have hN : wrN M a n v = M := by unfold wrN; rw [if_neg hc, if_neg h2, if_neg (fun x => hp x.1)]
        rw [hB, hN]
        exact (bwrite_none a n v ha hd hp h2 w).mono fun _ _ ⟨h1, h2⟩ => ⟨h1, h2 ▸ h.at, h2 ▸ Only.refl _ _⟩
  · exact bwrite_mem a n v ha hd h
set_option maxHeartbeats 1000000 in
theorem btype_any (i : Int) (s : ByteArray) (h : BusAt w b p q M) :
    Calls Try.prog 17 #[.pointer (some ⟨b, 0, none⟩), .int .i64 i, .string s] w fun e w' => e = .returned (.tuple #[]) ∧ BusAt w' b p q (typN M i s.data.toList) ∧ Only (fun i => i = b ∨ i = q) w w' := by
  obtain ⟨F, h⟩ := h
  unfold typN
  by_cases hi : 0 ≤ i ∧ i < 4
  · rw [if_pos hi]
    obtain ⟨k, rfl⟩ := Int.eq_ofNat_of_zero_le hi.1
    have hk : k < 4 := by omega
    rw [Int.toNat_natCast]
    clear hi
    go_enter Try.func17, Try.ntmps17
    go_wp2_with first | (go_at_call 43; refine (port_yes k hk _).mono ?_; rintro e w' ⟨rfl, rfl⟩) | (go_at_call 44; refine (add_any s h.row (by omega) (h.f.port k hk)).mono ?_; rintro e w' ⟨rfl, hto⟩)
    go_end0
    exact ⟨rfl, h.port_to hk hto⟩
  · rw [if_neg hi]
    have hno := port_no (b := b) i hi
    clear hi
    go_enter Try.func17, Try.ntmps17
    go_wp2_with (go_at_call 43; refine (hno _).mono ?_; rintro e w' ⟨rfl, rfl⟩)
    go_end0
    exact ⟨rfl, h.at, Only.refl _ _⟩
set_option maxHeartbeats 1000000 in
theorem bout_any (i : Int) (h : BusAt w b p q M) :
    Calls Try.prog 20 #[.pointer (some ⟨b, 0, none⟩), .int .i64 i] w fun e w' => e = .returned (.string (outS M i)) ∧ Kept w w' := by
  obtain ⟨F, h⟩ := h
  unfold outS
  by_cases hi : 0 ≤ i ∧ i < 4
  · rw [if_pos hi]
    obtain ⟨k, rfl⟩ := Int.eq_ofNat_of_zero_le hi.1
    have hk : k < 4 := by omega
    rw [Int.toNat_natCast]
    clear hi
    go_enter Try.func20, Try.ntmps20
    go_wp2_with first | (go_at_call 43; refine (port_yes k hk _).mono ?_; rintro e w' ⟨rfl, rfl⟩) | (go_at_call 45; refine (shown_any h.row (by omega) (h.f.port k hk)).mono ?_; rintro e w' ⟨rfl, hto⟩)
    go_ret
    exact ⟨rfl, hto⟩
  · rw [if_neg hi]
    have hno := port_no (b := b) i hi
    clear hi
    go_enter Try.func20, Try.ntmps20
    go_wp2_with (go_at_call 43; refine (hno _).mono ?_; rintro e w' ⟨rfl, rfl⟩)
    go_ret
    exact ⟨rfl, Only.refl _ _⟩
set_option maxHeartbeats 1000000 in
theorem bset_any (t : Int) (h : BusAt w b p q M) :
    Calls Try.prog 19 #[.pointer (some ⟨b, 0, none⟩), .int .u64 t] w fun e w' => e = .returned (.tuple #[]) ∧ BusAt w' b p q ⟨t, M.a, M.P, M.B⟩ ∧ Only (fun i => i = b ∨ i = q) w w' := by
  obtain ⟨F, h⟩ := h
  have c1 := h.c1
  have fz := h.row.frozen 1
  have hpost := h.set1 t
  go_enter Try.func19, Try.ntmps19
  go_wp2
  go_end0
  exact ⟨rfl, hpost⟩
set_option maxHeartbeats 1000000 in
theorem btimer_any (h : BusAt w b p q M) :
    Calls Try.prog 21 #[.pointer (some ⟨b, 0, none⟩)] w fun e w' => e = .returned (.bool (timB M)) ∧ Kept w w' := by
  obtain ⟨F, h⟩ := h
  have c1 := h.c1
  have c2 := h.c2
  go_enter Try.func21, Try.ntmps21
  go_wp2
  go_region
  go_wp2
  go_ret
  exact ⟨rfl, (Only.refl _ _).drew⟩
set_option maxHeartbeats 1000000 in
theorem bmem_any (h : BusAt w b p q M) :
    Calls Try.prog 25 #[.pointer (some ⟨b, 0, none⟩)] w fun e w' => e = .returned (.pointer (some ⟨p, 0, none⟩)) ∧ w' = w := by
  obtain ⟨F, h⟩ := h
  have c0 := h.c0
  go_enter Try.func25, Try.ntmps25
  go_wp2
  go_ret
  exact ⟨rfl, rfl⟩
end
end Go.Proofs.Ytpnlicklfemjeaa
