/-
  Two memories behind a row of words (few, both of the statements of layer 12): walked for every row.
-/
import Derived.Test.YtpplclenokfpeaaDoorMemFace
import Derived.Test.YtpplclenokfpeaaDoorRefWrite
import Derived.Test.YtpplclenokfpeaaDoorWkMem
import Derived.Deep.RegionHeld3
namespace Go.Proofs.YtpplclenokfpeaaDoor
open Go.RowKit
/-- A word of memory. -/
structure Ptw where
  a : Int
  v : Int
structure TwoP (w : World) (b p : Nat) (x : Ptw) : Prop where
  c0 : w.cell? ⟨b, p, none⟩ = some (.int .u64 x.a)
  c1 : w.cell? ⟨b, p + 1, none⟩ = some (.int .u64 x.v)
theorem cell_lt {w : World} {b o : Nat} {v : Value} (h : w.cell? ⟨b, o, none⟩ = some v) : b < w.heap.size := by
  apply Classical.byContradiction
  intro hn
  rw [World.cell?] at h
  simp [Array.getElem?_eq_none (show w.heap.size ≤ b by omega)] at h
theorem Only.cell {S : Nat → Prop} {w w' : World} (g : Only S w w') {b o : Nat} {v : Value} (h : w.cell? ⟨b, o, none⟩ = some v) (hn : ¬ S b) : w'.cell? ⟨b, o, none⟩ = some v := by
  rw [World.cell?_of_block (w := w) (g.same b (cell_lt h) hn)]; exact h
theorem TwoP.carry {S : Nat → Prop} {w w' : World} {b p : Nat} {x : Ptw} (h : TwoP w b p x) (g : Only S w w') (hn : ¬ S b) : TwoP w' b p x := ⟨g.cell h.c0 hn, g.cell h.c1 hn⟩
/-- The words lie in the block, one behind the other. -/
def LiesP (w : World) (b o : Nat) (L : List Ptw) : Prop := ∀ j x, L[j]? = some x → TwoP w b (o + j * 2) x
theorem LiesP.kept {w w' : World} {b o : Nat} {L : List Ptw} (h : LiesP w b o L) (g : Kept w w') : LiesP w' b o L := fun j x hx => (h j x hx).carry g id
/-- Two memories beside each other, made by the call itself. -/
structure Duo (W w : World) (pm qm pr qr : Nat) (B C : Nat → Int) : Prop where
  m : ProgAt w pm qm B
  r : RefAt w pr qr C
  k : Kept W w
  hm : W.heap.size ≤ qm
  hr : W.heap.size ≤ qr
  n1 : pm ≠ qr
  n2 : qm ≠ qr
  n3 : pr ≠ qm
theorem Duo.kept {W w w' : World} {pm qm pr qr : Nat} {B C : Nat → Int} (h : Duo W w pm qm pr qr B C) (g : Kept w w') : Duo W w' pm qm pr qr B C := ⟨h.m.kept g, h.r.kept g, h.k.then g, h.hm, h.hr, h.n1, h.n2, h.n3⟩
theorem Duo.prog {W w w' : World} {pm qm pr qr : Nat} {B C B' : Nat → Int} (h : Duo W w pm qm pr qr B C) (hm : ProgAt w' pm qm B') (g : Only (fun i => i = qm) w w') : Duo W w' pm qm pr qr B' C :=
  ⟨hm, h.r.carry g h.n3 (Ne.symm h.n2), h.k.new g (fun i hi => by rw [hi]; exact h.hm), h.hm, h.hr, h.n1, h.n2, h.n3⟩
theorem Duo.ref {W w w' : World} {pm qm pr qr : Nat} {B C C' : Nat → Int} (h : Duo W w pm qm pr qr B C) (hr : RefAt w' pr qr C') (g : Only (fun i => i = qr) w w') : Duo W w' pm qm pr qr B C' :=
  ⟨h.m.carry g h.n1 h.n2, hr, h.k.new g (fun i hi => by rw [hi]; exact h.hr), h.hm, h.hr, h.n1, h.n2, h.n3⟩
/-- .. and what a call left of the world ahead of it. -/
structure DuoF (W w w' : World) (c : Nat) (pm qm pr qr : Nat) (B C : Nat → Int) : Prop where
  d : Duo W w' pm qm pr qr B C
  far : Only (fun i => i = c) w w'
section
variable {W w : World} {pm qm pr qr : Nat} {B C : Nat → Int}
theorem code_d (h : Duo W w pm qm pr qr B C) (a n : Int) (ha : U a) :
    Calls Tryd.prog 24 #[.pointer (some ⟨pr, 0, none⟩), .int .u64 a, .int .i64 n] w fun e w' => e = .returned (.int .i64 (codeI a n)) ∧ Kept w w' :=
  (rcode_any a n ha w pr qr C h.r).mono fun _ _ hx => ⟨hx.1, hx.2⟩
theorem mwrite_d (h : Duo W w pm qm pr qr B C) (a n v : Int) (ha : U a) :
    Calls Tryd.prog 21 #[.pointer (some ⟨pm, 0, none⟩), .int .u64 a, .int .i64 n, .int .u64 v] w fun e w' => e = .returned (.int .i64 (codeI a n)) ∧ DuoF W w w' qm pm qm pr qr (wrZ B a n v) C :=
  (mwrite_any a n v ha w pm qm B h.m).mono fun _ _ hx => ⟨hx.1, h.prog hx.2.1 hx.2.2, hx.2.2⟩
theorem rwrite_d (h : Duo W w pm qm pr qr B C) (a v : Int) (ha : U a) (hv : U v) (hc : codeI a 8 = 0) :
    Calls Tryd.prog 25 #[.pointer (some ⟨pr, 0, none⟩), .int .u64 a, .int .i64 8, .int .u64 v] w fun e w' => e = .returned (.tuple #[]) ∧ DuoF W w w' qr pm qm pr qr B (wrZ C a 8 v) := by
  obtain ⟨A, N, rfl, hN, h1, h2⟩ := code_fits ha.1 hc
  obtain rfl : N = 8 := by omega
  rw [wrZ_word hc, Int.toNat_natCast]
  exact (rwrite_any A 8 v hv (by omega) h2 w pr qr C h.r).mono fun _ _ hx => ⟨hx.1, h.ref hx.2.1 hx.2.2, hx.2.2⟩
end
theorem few_any (q : Option Addr) (n cap : Nat) (w : World) :
    Calls Tryd.prog 9 #[.slice q n cap] w fun e w' => e = .returned (.bool (decide (n ≤ 60))) ∧ w' = w := by
  by_cases h : n ≤ 60
  · have hl : (n : Int) ≤ 60 := by omega
    rw [decide_eq_true h]
    clear h
    go_enter Tryd.func9, Tryd.ntmps9
    go_wp2
    go_ret
    exact ⟨rfl, rfl⟩
  · have hl : ¬ (n : Int) ≤ 60 := by omega
    rw [decide_eq_false h]
    clear h
    go_enter Tryd.func9, Tryd.ntmps9
    go_wp2
    go_ret
    exact ⟨rfl, rfl⟩
set_option maxRecDepth 100000 in
set_option maxHeartbeats 4000000 in
theorem both_any {W : World} (L : List Ptw) (hL : L.length ≤ 60) (hat : ∀ x ∈ L, U x.a ∧ U x.v) (b o cap : Nat) (hC : LiesP W b o L) :
    Calls Tryd.prog 10 #[.slice (some ⟨b, o, none⟩) L.length cap] W fun e w' => ∃ pm qm pr qr B, e = .returned (.tuple #[.pointer (some ⟨pm, 0, none⟩), .pointer (some ⟨pr, 0, none⟩)]) ∧ Duo W w' pm qm pr qr B B := by
  go_enter Tryd.func10, Tryd.ntmps10
  go_wp2_with fail
  refine (mnew_any _).mono ?_
  rintro e w2 ⟨pm, qm, rfl, m2, hpm, hqm, k2⟩
  go_wp2_with fail
  refine (rnew_any _).mono ?_
  rintro e w3 ⟨pr, qr, rfl, r3, hpr, hqr, k3⟩
  have t3 : Duo W w3 pm qm pr qr (fun _ => 0) (fun _ => 0) := by
    have l := m2.lt
    exact ⟨m2.kept k3, r3, k2.then k3, hqm, Nat.le_trans k2.size hqr, by omega, by omega, by omega⟩
  clear k2 k3 m2 r3 hpm hqm hpr hqr
  go_wp2
  go_loopw [6] (fun i wr => ∃ (k : Nat) (B : Nat → Int), k ≤ L.length ∧ i = .int .i64 (k : Int) ∧ Duo W wr pm qm pr qr B B) (fun i _ => L.length - (intOf i).toNat)
  case atStart => exact ⟨0, _, Nat.zero_le _, rfl, t3⟩
  case round =>
    obtain ⟨k, B, hk, rfl, ht⟩ := hrel
    clear t3
    by_cases hlt : k < L.length
    · obtain ⟨x, hx⟩ : ∃ x, L[k]? = some x := ⟨_, List.getElem?_eq_getElem (by omega)⟩
      have hlt' : (k : Int) < (L.length : Int) := by omega
      have hk0 : (0 : Int) ≤ (k : Int) := by omega
      have hkeep : Hid (k < L.length) := hlt
      have hk9 : (k : Int) ≤ 60 := by omega
      obtain ⟨ha, hv⟩ := hat x (List.mem_of_getElem? hx)
      have hb0 := cell_lt ((hC k x hx).c0)
      have hbm := ht.hm
      have hbr := ht.hr
      obtain ⟨c0, c1⟩ := (hC.kept ht.k) k x hx
      clear hx hC hat
      obtain ⟨xa, xv⟩ := x
      simp only at ha hv c0 c1
      have p0 := ha.1
      by_cases hz : codeI xa 8 = 0
      · have hz' : (codeI xa 8 == 0) = true := by rw [hz]; rfl
        go_wp2_with fail
        refine (code_d ht _ _ ha).mono ?_
        rintro e w6 ⟨rfl, k6⟩
        have t6 := (ht.kept k6).kept ((Only.refl _ w6).drew)
        have d0 := k6.drew.cell c0 id
        have d1 := k6.drew.cell c1 id
        clear ht c0 c1 k6
        go_upto_region 6 with fail
        refine wp_region_held_drew (S := fun w2 => w2.cell? ⟨b, o + k * 2, none⟩ = some (.int .u64 xa) ∧ w2.cell? ⟨b, o + k * 2 + 1, none⟩ = some (.int .u64 xv)) (by kernel_rfl) ⟨d0, d1⟩ (fun hHeld => ?_)
        refine wpAnyH_take (i := 0) (v := ?_) rfl (by kernel_rfl) (by kernel_rfl) (by kernel_rfl) (fun _ _ _ h => h) (Or.inl ⟨by rfl, ?_⟩) hHeld ?_
        rotate_left
        · intro w2 hSw
          clear hSw
          go_simp
          all_goals rfl
        try simp only [Act.put, List.getElem_toArray, List.getElem_cons_zero, List.setIfInBounds_toArray, List.set_cons_zero, List.set_cons_succ]
        refine wpAnyH_take (i := 1) (v := ?_) rfl (by kernel_rfl) (by kernel_rfl) (by kernel_rfl) (fun _ _ _ h => h) (Or.inl ⟨by rfl, ?_⟩) hHeld ?_
        rotate_left
        · intro w2 hSw
          clear hSw
          go_simp
          all_goals rfl
        try simp only [Act.put, List.getElem_toArray, List.getElem_cons_zero, List.getElem_cons_succ, List.setIfInBounds_toArray, List.set_cons_zero, List.set_cons_succ]
        refine wpAnyH_take (i := 2) (v := ?_) rfl (by kernel_rfl) (by kernel_rfl) (by kernel_rfl) (fun _ _ _ h => h) (Or.inl ⟨by rfl, ?_⟩) hHeld ?_
        rotate_left
        · intro w2 hSw
          clear hSw
          go_simp
          all_goals rfl
        try simp only [Act.put, List.getElem_toArray, List.getElem_cons_zero, List.getElem_cons_succ, List.setIfInBounds_toArray, List.set_cons_zero, List.set_cons_succ]
        refine wpAnyH_take (i := 3) (v := ?_) rfl (by kernel_rfl) (by kernel_rfl) (by kernel_rfl) (fun _ _ _ h => h) (Or.inl ⟨by rfl, ?_⟩) hHeld ?_
        rotate_left
        · intro w2 hSw
          clear hSw
          go_simp
          all_goals rfl
        try simp only [Act.put, List.getElem_toArray, List.getElem_cons_zero, List.getElem_cons_succ, List.setIfInBounds_toArray, List.set_cons_zero, List.set_cons_succ]
        refine wpAnyH_take (i := 4) (v := ?_) rfl (by kernel_rfl) (by kernel_rfl) (by kernel_rfl) (fun _ _ _ h => h) (Or.inl ⟨by rfl, ?_⟩) hHeld ?_
        rotate_left
        · intro w2 hSw
          clear hSw
          go_simp
          all_goals rfl
        try simp only [Act.put, List.getElem_toArray, List.getElem_cons_zero, List.getElem_cons_succ, List.setIfInBounds_toArray, List.set_cons_zero, List.set_cons_succ]
        refine wpAnyH_take (i := 5) (v := ?_) rfl (by kernel_rfl) (by kernel_rfl) (by kernel_rfl) (fun _ _ _ h => h) (Or.inl ⟨by rfl, ?_⟩) hHeld ?_
        rotate_left
        · intro w2 hSw
          obtain ⟨z0, z1⟩ := hSw
          go_simp
          all_goals rfl
        try simp only [Act.put, List.getElem_toArray, List.getElem_cons_zero, List.getElem_cons_succ, List.setIfInBounds_toArray, List.set_cons_zero, List.set_cons_succ]
        refine wpAnyH_take (i := 6) (v := ?_) rfl (by kernel_rfl) (by kernel_rfl) (by kernel_rfl) (fun _ _ _ h => h) (Or.inl ⟨by rfl, ?_⟩) hHeld ?_
        rotate_left
        · intro w2 hSw
          clear hSw
          go_simp
          all_goals rfl
        try simp only [Act.put, List.getElem_toArray, List.getElem_cons_zero, List.getElem_cons_succ, List.setIfInBounds_toArray, List.set_cons_zero, List.set_cons_succ]
        refine wpAnyH_take (i := 7) (v := ?_) rfl (by kernel_rfl) (by kernel_rfl) (by kernel_rfl) (fun _ _ _ h => h) (Or.inl ⟨by rfl, ?_⟩) hHeld ?_
        rotate_left
        · intro w2 hSw
          clear hSw
          go_simp
          all_goals rfl
        try simp only [Act.put, List.getElem_toArray, List.getElem_cons_zero, List.getElem_cons_succ, List.setIfInBounds_toArray, List.set_cons_zero, List.set_cons_succ]
        refine wpAnyH_take (i := 8) (v := ?_) rfl (by kernel_rfl) (by kernel_rfl) (by kernel_rfl) (fun _ _ _ h => h) (Or.inl ⟨by rfl, ?_⟩) hHeld ?_
        rotate_left
        · intro w2 hSw
          clear hSw
          go_simp
          all_goals rfl
        try simp only [Act.put, List.getElem_toArray, List.getElem_cons_zero, List.getElem_cons_succ, List.setIfInBounds_toArray, List.set_cons_zero, List.set_cons_succ]
        refine wpAnyH_take (i := 9) (v := ?_) rfl (by kernel_rfl) (by kernel_rfl) (by kernel_rfl) (fun _ _ _ h => h) (Or.inl ⟨by rfl, ?_⟩) hHeld ?_
        rotate_left
        · intro w2 hSw
          clear hSw
          go_simp
          all_goals rfl
        try simp only [Act.put, List.getElem_toArray, List.getElem_cons_zero, List.getElem_cons_succ, List.setIfInBounds_toArray, List.set_cons_zero, List.set_cons_succ]
        refine wpAnyH_take (i := 10) (v := ?_) rfl (by kernel_rfl) (by kernel_rfl) (by kernel_rfl) (fun _ _ _ h => h) (Or.inl ⟨by rfl, ?_⟩) hHeld ?_
        rotate_left
        · intro w2 hSw
          obtain ⟨z0, z1⟩ := hSw
          go_simp
          all_goals rfl
        try simp only [Act.put, List.getElem_toArray, List.getElem_cons_zero, List.getElem_cons_succ, List.setIfInBounds_toArray, List.set_cons_zero, List.set_cons_succ]
        refine wpAnyH_ready (rs := [11]) (by kernel_rfl) (by simp) ?_
        refine AllReadyH.cons rfl (fun K hK => ?_) AllReadyH.nil
        go_simp
        refine (mwrite_d t6 _ _ _ ha).mono ?_
        rintro e wn ⟨rfl, t7⟩
        go_simp
        have f0 := t7.far.cell d0 (show ¬ b = qm by omega)
        have f1 := t7.far.cell d1 (show ¬ b = qm by omega)
        refine hK.out _ _ ⟨f0, f1⟩ (fun hHeld => ?_)
        clear hK K hHeld
        try simp only [Act.put, List.setIfInBounds_toArray, List.set_cons_zero, List.set_cons_succ]
        refine wpAnyH_done (by kernel_rfl) ?_ _
        have t8 := t7.d.kept ((Only.refl _ _).drew)
        have g0 := ((Only.refl (fun _ => False) wn).drew).cell f0 id
        have g1 := ((Only.refl (fun _ => False) wn).drew).cell f1 id
        clear t6 t7 d0 d1 f0 f1
        go_upto_region 7 with fail
        refine wp_region_held_drew (S := fun w2 => w2.cell? ⟨b, o + k * 2, none⟩ = some (.int .u64 xa) ∧ w2.cell? ⟨b, o + k * 2 + 1, none⟩ = some (.int .u64 xv)) (by kernel_rfl) ⟨g0, g1⟩ (fun hHeld => ?_)
        refine wpAnyH_take (i := 0) (v := ?_) rfl (by kernel_rfl) (by kernel_rfl) (by kernel_rfl) (fun _ _ _ h => h) (Or.inl ⟨by rfl, ?_⟩) hHeld ?_
        rotate_left
        · intro w2 hSw
          clear hSw
          go_simp
          all_goals rfl
        try simp only [Act.put, List.getElem_toArray, List.getElem_cons_zero, List.setIfInBounds_toArray, List.set_cons_zero, List.set_cons_succ]
        refine wpAnyH_take (i := 1) (v := ?_) rfl (by kernel_rfl) (by kernel_rfl) (by kernel_rfl) (fun _ _ _ h => h) (Or.inl ⟨by rfl, ?_⟩) hHeld ?_
        rotate_left
        · intro w2 hSw
          clear hSw
          go_simp
          all_goals rfl
        try simp only [Act.put, List.getElem_toArray, List.getElem_cons_zero, List.getElem_cons_succ, List.setIfInBounds_toArray, List.set_cons_zero, List.set_cons_succ]
        refine wpAnyH_take (i := 2) (v := ?_) rfl (by kernel_rfl) (by kernel_rfl) (by kernel_rfl) (fun _ _ _ h => h) (Or.inl ⟨by rfl, ?_⟩) hHeld ?_
        rotate_left
        · intro w2 hSw
          clear hSw
          go_simp
          all_goals rfl
        try simp only [Act.put, List.getElem_toArray, List.getElem_cons_zero, List.getElem_cons_succ, List.setIfInBounds_toArray, List.set_cons_zero, List.set_cons_succ]
        refine wpAnyH_take (i := 3) (v := ?_) rfl (by kernel_rfl) (by kernel_rfl) (by kernel_rfl) (fun _ _ _ h => h) (Or.inl ⟨by rfl, ?_⟩) hHeld ?_
        rotate_left
        · intro w2 hSw
          clear hSw
          go_simp
          all_goals rfl
        try simp only [Act.put, List.getElem_toArray, List.getElem_cons_zero, List.getElem_cons_succ, List.setIfInBounds_toArray, List.set_cons_zero, List.set_cons_succ]
        refine wpAnyH_take (i := 4) (v := ?_) rfl (by kernel_rfl) (by kernel_rfl) (by kernel_rfl) (fun _ _ _ h => h) (Or.inl ⟨by rfl, ?_⟩) hHeld ?_
        rotate_left
        · intro w2 hSw
          clear hSw
          go_simp
          all_goals rfl
        try simp only [Act.put, List.getElem_toArray, List.getElem_cons_zero, List.getElem_cons_succ, List.setIfInBounds_toArray, List.set_cons_zero, List.set_cons_succ]
        refine wpAnyH_take (i := 5) (v := ?_) rfl (by kernel_rfl) (by kernel_rfl) (by kernel_rfl) (fun _ _ _ h => h) (Or.inl ⟨by rfl, ?_⟩) hHeld ?_
        rotate_left
        · intro w2 hSw
          obtain ⟨z0, z1⟩ := hSw
          go_simp
          all_goals rfl
        try simp only [Act.put, List.getElem_toArray, List.getElem_cons_zero, List.getElem_cons_succ, List.setIfInBounds_toArray, List.set_cons_zero, List.set_cons_succ]
        refine wpAnyH_take (i := 6) (v := ?_) rfl (by kernel_rfl) (by kernel_rfl) (by kernel_rfl) (fun _ _ _ h => h) (Or.inl ⟨by rfl, ?_⟩) hHeld ?_
        rotate_left
        · intro w2 hSw
          clear hSw
          go_simp
          all_goals rfl
        try simp only [Act.put, List.getElem_toArray, List.getElem_cons_zero, List.getElem_cons_succ, List.setIfInBounds_toArray, List.set_cons_zero, List.set_cons_succ]
        refine wpAnyH_take (i := 7) (v := ?_) rfl (by kernel_rfl) (by kernel_rfl) (by kernel_rfl) (fun _ _ _ h => h) (Or.inl ⟨by rfl, ?_⟩) hHeld ?_
        rotate_left
        · intro w2 hSw
          clear hSw
          go_simp
          all_goals rfl
        try simp only [Act.put, List.getElem_toArray, List.getElem_cons_zero, List.getElem_cons_succ, List.setIfInBounds_toArray, List.set_cons_zero, List.set_cons_succ]
        refine wpAnyH_take (i := 8) (v := ?_) rfl (by kernel_rfl) (by kernel_rfl) (by kernel_rfl) (fun _ _ _ h => h) (Or.inl ⟨by rfl, ?_⟩) hHeld ?_
        rotate_left
        · intro w2 hSw
          clear hSw
          go_simp
          all_goals rfl
        try simp only [Act.put, List.getElem_toArray, List.getElem_cons_zero, List.getElem_cons_succ, List.setIfInBounds_toArray, List.set_cons_zero, List.set_cons_succ]
        refine wpAnyH_take (i := 9) (v := ?_) rfl (by kernel_rfl) (by kernel_rfl) (by kernel_rfl) (fun _ _ _ h => h) (Or.inl ⟨by rfl, ?_⟩) hHeld ?_
        rotate_left
        · intro w2 hSw
          clear hSw
          go_simp
          all_goals rfl
        try simp only [Act.put, List.getElem_toArray, List.getElem_cons_zero, List.getElem_cons_succ, List.setIfInBounds_toArray, List.set_cons_zero, List.set_cons_succ]
        refine wpAnyH_take (i := 10) (v := ?_) rfl (by kernel_rfl) (by kernel_rfl) (by kernel_rfl) (fun _ _ _ h => h) (Or.inl ⟨by rfl, ?_⟩) hHeld ?_
        rotate_left
        · intro w2 hSw
          obtain ⟨z0, z1⟩ := hSw
          go_simp
          all_goals rfl
        try simp only [Act.put, List.getElem_toArray, List.getElem_cons_zero, List.getElem_cons_succ, List.setIfInBounds_toArray, List.set_cons_zero, List.set_cons_succ]
        refine wpAnyH_ready (rs := [11]) (by kernel_rfl) (by simp) ?_
        refine AllReadyH.cons rfl (fun K hK => ?_) AllReadyH.nil
        go_simp
        refine (rwrite_d t8 _ _ ha hv hz).mono ?_
        rintro e wm ⟨rfl, t9⟩
        go_simp
        have h0 := t9.far.cell g0 (show ¬ b = qr by omega)
        have h1 := t9.far.cell g1 (show ¬ b = qr by omega)
        refine hK.out _ _ ⟨h0, h1⟩ (fun hHeld => ?_)
        clear hK K hHeld
        try simp only [Act.put, List.setIfInBounds_toArray, List.set_cons_zero, List.set_cons_succ]
        refine wpAnyH_done (by kernel_rfl) ?_ _
        have t10 := t9.d
        clear t8 t9 g0 g1 h0 h1
        go_wp2
        have hk2 : k < L.length := hkeep
        exact ⟨⟨k + 1, _, by omega, by go_num, t10⟩, by simp [intOf]; omega⟩
      · have hz' : (codeI xa 8 == 0) = false := beq_eq_false_iff_ne.2 hz
        go_wp2_with fail
        refine (code_d ht _ _ ha).mono ?_
        rintro e w6 ⟨rfl, k6⟩
        have t6 := ht.kept k6
        clear ht c0 c1 k6
        go_wp2
        have hk2 : k < L.length := hkeep
        exact ⟨⟨k + 1, _, by omega, by go_num, t6⟩, by simp [intOf]; omega⟩
    · obtain rfl : k = L.length := by omega
      go_wp2
      go_ret2
      exact ⟨pm, qm, pr, qr, _, rfl, ht⟩
set_option maxRecDepth 100000 in
set_option maxHeartbeats 1000000 in
theorem both_nil (q : Option Addr) (cap : Nat) (W : World) :
    Calls Tryd.prog 10 #[.slice q 0 cap] W fun e w' => ∃ pm qm pr qr B, e = .returned (.tuple #[.pointer (some ⟨pm, 0, none⟩), .pointer (some ⟨pr, 0, none⟩)]) ∧ Duo W w' pm qm pr qr B B := by
  go_enter Tryd.func10, Tryd.ntmps10
  go_wp2_with fail
  refine (mnew_any _).mono ?_
  rintro e w2 ⟨pm, qm, rfl, m2, hpm, hqm, k2⟩
  go_wp2_with fail
  refine (rnew_any _).mono ?_
  rintro e w3 ⟨pr, qr, rfl, r3, hpr, hqr, k3⟩
  have t3 : Duo W w3 pm qm pr qr (fun _ => 0) (fun _ => 0) := by
    have l := m2.lt
    exact ⟨m2.kept k3, r3, k2.then k3, hqm, Nat.le_trans k2.size hqr, by omega, by omega, by omega⟩
  clear k2 k3 m2 r3 hpm hqm hpr hqr
  go_wp2
  refine wp_loop_rounds 1 ?_
  rw [rounds_succ]
  go_wp2
  go_ret2
  exact ⟨pm, qm, pr, qr, _, rfl, t3⟩
/-- What a row of words that comes in looks like. -/
def RowP (w : World) (v : Value) : Prop := (∃ q cap, v = .slice q 0 cap) ∨ ∃ (b o cap : Nat) (L : List Ptw), v = .slice (some ⟨b, o, none⟩) L.length cap ∧ LiesP w b o L ∧ ∀ x ∈ L, U x.a ∧ U x.v
theorem RowP.kept {w w' : World} {v : Value} (h : RowP w v) (g : Kept w w') : RowP w' v := by
  rcases h with h | ⟨b, o, cap, L, e, hL, hU⟩
  · exact .inl h
  · exact .inr ⟨b, o, cap, L, e, hL.kept g, hU⟩
theorem RowP.form {w : World} {v : Value} (h : RowP w v) : ∃ q n cap, v = .slice q n cap := by
  rcases h with ⟨q, cap, e⟩ | ⟨b, o, cap, L, e, _⟩
  · exact ⟨q, 0, cap, e⟩
  · exact ⟨_, _, _, e⟩
theorem both_row {W : World} {q : Option Addr} {n cap : Nat} (h : RowP W (.slice q n cap)) (hn : n ≤ 60) :
    Calls Tryd.prog 10 #[.slice q n cap] W fun e w' => ∃ pm qm pr qr B, e = .returned (.tuple #[.pointer (some ⟨pm, 0, none⟩), .pointer (some ⟨pr, 0, none⟩)]) ∧ Duo W w' pm qm pr qr B B := by
  rcases h with ⟨q', cap', e⟩ | ⟨b, o, cap', L, e, hL, hU⟩
  · cases e
    exact both_nil q cap W
  · cases e
    exact both_any L hn hU b o cap hL
end Go.Proofs.YtpplclenokfpeaaDoor
