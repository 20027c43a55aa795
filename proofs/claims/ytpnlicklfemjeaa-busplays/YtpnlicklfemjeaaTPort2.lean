/-
  What is typed at a port of package bus, and put out by it (the landed package's): walked whole, for every argument.
-/
import Derived.Test.YtpnlicklfemjeaaTPort
namespace Go.Proofs.Ytpnlicklfemjeaa
open Go.RowKit
section
variable {w : World} {b o n : Nat} {T : TypeId} {F : Nat → Value} {P : Prt}
theorem byte_at (s : List UInt8) (j : Nat) (x : UInt8) (h : s[j]? = some x) : s.getD j 0 = x := by
  rw [List.getD_eq_getElem?_getD, h]; rfl
set_option maxRecDepth 10000 in
set_option maxHeartbeats 1000000 in
theorem add_some (s : ByteArray) (ht : P.typ < 64) (h : w.rowIs b T n F) (ho : o + 131 ≤ n) (hp : PortF F o P) :
    Calls Try.prog 44 #[.pointer (some ⟨b, o, none⟩), .string s] w fun e w' => e = .returned (.tuple #[]) ∧ PortTo w w' b o n T F (P.type s.data.toList) := by
  obtain ⟨hk, I, O, tk, hc⟩ := hp
  have hs := hc.sum
  obtain ⟨k, hkk⟩ : ∃ k, k = min s.size (64 - P.typ) := ⟨_, rfl⟩
  obtain ⟨R, hcp, hrow⟩ := copy_text_row h.drew (o + P.typ) (64 - P.typ) (64 - P.typ) k s hkk (by omega) (fun i => if o + P.typ ≤ i ∧ i < o + P.typ + k then .int .u8 ((s.data.toList.getD (i - (o + P.typ)) 0).toNat : Int) else F i)
    (fun j hj => by rw [if_pos (by omega), Nat.add_sub_cancel_left]) (fun j _ hn => by rw [if_neg hn])
  have c64 : w.cell? ⟨b, o + 64, none⟩ = some (.int .i64 (P.typ : Int)) := by rw [h.cell (by omega), hc.typ]
  have c64d : w.drew.cell? ⟨b, o + 64, none⟩ = some (.int .i64 (P.typ : Int)) := c64
  have c64' : (w.drew.setRow b R).cell? ⟨b, o + 64, none⟩ = some (.int .i64 (P.typ : Int)) := by rw [hrow.cell (by omega), if_neg (by omega), hc.typ]
  have fz := hrow.frozen (o + 64)
  have l0 : (0 : Int) ≤ (P.typ : Int) := by omega
  have l1 : (P.typ : Int) ≤ 64 := by omega
  have hw : IntKind.i64.wrap ((P.typ : Int) + (k : Int)) = (P.typ : Int) + (k : Int) := by rw [IntKind.wrap_i64]; omega
  have hpost : PortTo w ((w.drew.setRow b R).setCell ⟨b, o + 64, none⟩ (.int .i64 ((P.typ : Int) + (k : Int)))) b o n T F (P.type s.data.toList) := by
    have hlen : s.data.toList.length = s.size := by simp
    have hpl : (P.type s.data.toList).pend.length = P.pend.length + k := by simp only [Prt.type, List.length_append, List.length_take, hlen]; omega
    have hty : (P.type s.data.toList).typ = P.typ + k := by simp only [Prt.type, hlen]; omega
    refine ⟨_, hrow.set (o + 64) _, ⟨hk.type _, fun i => if P.typ ≤ i ∧ i < P.typ + k then s.data.toList.getD (i - P.typ) 0 else I i, O, tk, fun i hi => ?_, ?_, ?_, ?_, fun j x hx => ?_, fun i hi => ?_, ?_, hc.out⟩, fun i hi => ?_, ((Only.refl (fun i => i = b) w).drew.setRow rfl R).setCell rfl _⟩
    · rw [if_neg (by omega)]
      by_cases hin : P.typ ≤ i ∧ i < P.typ + k
      · rw [if_pos (by omega), if_pos hin, show o + i - (o + P.typ) = i - P.typ by omega]
      · rw [if_neg (by omega), if_neg hin]; exact hc.inp i hi
    · rw [if_pos rfl, hty]; simp
    · rw [if_neg (by omega), if_neg (by omega)]; exact hc.tak
    · rw [hpl, hty]; omega
    · have hj : j < P.pend.length + k := by rw [← hpl]; exact (List.getElem?_eq_some_iff.1 hx).1
      simp only [Prt.type] at hx
      by_cases hlt : j < P.pend.length
      · rw [List.getElem?_append_left hlt] at hx
        rw [if_neg (by omega)]; exact hc.pend j x hx
      · rw [List.getElem?_append_right (by omega), List.getElem?_take, if_pos (by omega)] at hx
        rw [if_pos (by omega), show tk + j - P.typ = j - P.pend.length by omega]
        exact byte_at _ _ _ hx
    · rw [if_neg (by omega), if_neg (by omega)]; exact hc.outp i hi
    · rw [if_neg (by omega), if_neg (by omega)]; exact hc.shows
    · rw [if_neg (by omega), if_neg (by omega)]
  clear hc hk hkk hs hrow ho
  go_enter Try.func44, Try.ntmps44
  go_wp2
  go_region
  go_wp2
  go_end0
  exact ⟨rfl, hpost⟩
set_option maxRecDepth 10000 in
set_option maxHeartbeats 1000000 in
theorem add_full (s : ByteArray) (ht : P.typ = 64) (h : w.rowIs b T n F) (ho : o + 131 ≤ n) (hp : PortF F o P) :
    Calls Try.prog 44 #[.pointer (some ⟨b, o, none⟩), .string s] w fun e w' => e = .returned (.tuple #[]) ∧ PortTo w w' b o n T F (P.type s.data.toList) := by
  obtain ⟨hk, I, O, tk, hc⟩ := hp
  have hcp := fun ad c w => copy_no_room ad c s w
  have c64 : w.cell? ⟨b, o + 64, none⟩ = some (.int .i64 64) := by rw [h.cell (by omega), hc.typ, ht]; rfl
  have fz := h.frozen (o + 64)
  have hT : P.type s.data.toList = P := by
    unfold Prt.type
    rw [ht]
    cases P
    simp_all
  have hpost : PortTo w (w.drew.setCell ⟨b, o + 64, none⟩ (.int .i64 64)) b o n T F (P.type s.data.toList) := by
    rw [hT]
    have hF : ∀ i, (if i = o + 64 then Value.int .i64 64 else F i) = F i := fun i => by
      split
      · rename_i e; rw [e, hc.typ, ht]; rfl
      · rfl
    exact ⟨F, (h.drew.set (o + 64) _).congr fun i _ => hF i, ⟨hk, I, O, tk, hc⟩, fun _ _ => rfl, (Only.refl (fun i => i = b) w).drew.setCell rfl _⟩
  clear hc hk ht h ho hT
  go_enter Try.func44, Try.ntmps44
  go_wp2
  go_region
  go_wp2
  go_end0
  exact ⟨rfl, hpost⟩
theorem add_any (s : ByteArray) (h : w.rowIs b T n F) (ho : o + 131 ≤ n) (hp : PortF F o P) :
    Calls Try.prog 44 #[.pointer (some ⟨b, o, none⟩), .string s] w fun e w' => e = .returned (.tuple #[]) ∧ PortTo w w' b o n T F (P.type s.data.toList) := by
  by_cases ht : P.typ < 64
  · exact add_some s ht h ho hp
  · exact add_full s (by have := hp.ok.typ; omega) h ho hp
/-- A row's bytes moved down by one. -/
theorem copy_down {w : World} {b n : Nat} {t : TypeId} {f : Nat → Value} (h : w.rowIs b t n f) (o : Nat) (ho : o + 64 ≤ n) (O : Nat → UInt8) (hO : ∀ i, i < 64 → f (o + i) = .int .u8 ((O i).toNat : Int)) (g : Nat → Value)
    (hin : ∀ j, j < 63 → g (o + j) = f (o + j + 1)) (hout : ∀ j, j < n → ¬ (o ≤ j ∧ j < o + 63) → g j = f j) :
    ∃ R, (∀ c d : Nat, (Builtin.copy_ #[67, 67] 3 #[.slice (some ⟨b, o, none⟩) 64 c, .slice (some ⟨b, o + 1, none⟩) 63 d]).run Try.prog w = .ok (goInt 63) (w.setRow b R)) ∧ (w.setRow b R).rowIs b t n g := by
  have hu : Try.prog.underlying 67 = some (.slice 5) := by kernel_rfl
  have hs : (Try.prog.info? 5).map (·.size) = some 1 := by kernel_rfl
  obtain ⟨cur, hb, hsz, _⟩ := id h
  have hlen : ((List.range 63).map (fun j => Value.int .u8 ((O (j + 1)).toNat : Int))).length = 63 := by simp
  have hc := fun c d => run_copy_row Try.prog w 67 67 3 5 b o 64 c ⟨b, o + 1, none⟩ 63 d cur t ((List.range 63).map (fun j => Value.int .u8 ((O (j + 1)).toNat : Int))) hu hs hb (by rw [hlen]; rfl) (by
    intro j v hj
    have hlt : j < 63 := by
      have := (List.getElem?_eq_some_iff.1 hj).1
      rwa [hlen] at this
    rw [List.getElem?_map, List.getElem?_range hlt] at hj
    obtain rfl := Option.some.inj hj
    rw [show (⟨b, o + 1, none⟩ : Addr).add j = ⟨b, o + (j + 1), none⟩ by rw [show o + (j + 1) = o + 1 + j by omega]; simp [Addr.add], h.cell (by omega), hO (j + 1) (by omega)]) (by rw [hlen, hsz]; omega) (by
    intro v hv
    obtain ⟨b, _, rfl⟩ := List.mem_map.1 hv
    rfl)
  have hsp := row_splice h hb o ((List.range 63).map (fun j => Value.int .u8 ((O (j + 1)).toNat : Int))) (by rw [hlen]; omega) g (fun j hj => by
    rw [hlen] at hj
    rw [hin j hj, List.getElem?_map, List.getElem?_range hj, show o + j + 1 = o + (j + 1) by omega, hO (j + 1) (by omega)]
    rfl) (fun j hj hn => hout j hj (by rwa [hlen] at hn))
  rw [hlen] at hc hsp
  exact ⟨_, hc, hsp⟩
set_option maxRecDepth 10000 in
set_option maxHeartbeats 1000000 in
theorem put_room (c : UInt8) (ht : P.out.length < 64) (h : w.rowIs b T n F) (ho : o + 131 ≤ n) (hp : PortF F o P) :
    Calls Try.prog 40 #[.pointer (some ⟨b, o, none⟩), .int .u8 (c.toNat : Int)] w fun e w' => e = .returned (.tuple #[]) ∧ PortTo w w' b o n T F (P.put c) := by
  obtain ⟨hk, I, O, tk, hc⟩ := hp
  obtain ⟨l, hl⟩ : ∃ l, P.out.length = l := ⟨_, rfl⟩
  rw [hl] at ht
  have c130 : w.cell? ⟨b, o + 130, none⟩ = some (.int .i64 (l : Int)) := by rw [h.cell (by omega), hc.shows, hl]
  have h1 := h.drew.set (o + 66 + l) (.int .u8 (c.toNat : Int))
  have cl : w.cell? ⟨b, o + 66 + l, none⟩ = some (.int .u8 ((O l).toNat : Int)) := by rw [h.cell (by omega), hc.outp l (by omega)]
  have fl := h.frozen (o + 66 + l)
  have c130' := h1.cell (i := o + 130) (by omega)
  rw [if_neg (by omega), hc.shows, hl] at c130'
  have f130 := h.frozen (o + 130)
  have l0 : (0 : Int) ≤ (l : Int) := by omega
  have l1 : (l : Int) < 64 := by omega
  have hne : ((l : Int) == 64) = false := beq_eq_false_iff_ne.2 (by omega)
  have hput : (P.put c).out = P.out ++ [c] := by simp [Prt.put, last64, hl, show l + 1 - 64 = 0 by omega]
  have hpost : PortTo w ((w.drew.setCell ⟨b, o + 66 + l, none⟩ (.int .u8 (c.toNat : Int))).setCell ⟨b, o + 130, none⟩ (.int .i64 ((l : Int) + 1))) b o n T F (P.put c) := by
    refine ⟨_, h1.set (o + 130) _, ⟨hk.put c, I, fun i => if i = l then c else O i, tk, fun i hi => ?_, ?_, ?_, hc.sum, hc.pend, fun i hi => ?_, ?_, fun j x hx => ?_⟩, fun i hi => ?_, ((Only.refl (fun i => i = b) w).drew.setCell rfl _).setCell rfl _⟩
    · rw [if_neg (by omega), if_neg (by omega)]; exact hc.inp i hi
    · rw [if_neg (by omega), if_neg (by omega)]; exact hc.typ
    · rw [if_neg (by omega), if_neg (by omega)]; exact hc.tak
    · rw [if_neg (by omega)]
      by_cases e : i = l
      · rw [if_pos (by omega), if_pos e]
      · rw [if_neg (by omega), if_neg e]; exact hc.outp i hi
    · rw [if_pos rfl, hput, List.length_append, hl]; simp
    · rw [hput] at hx
      by_cases e : j < P.out.length
      · rw [List.getElem?_append_left e] at hx
        rw [if_neg (by omega)]; exact hc.out j x hx
      · rw [List.getElem?_append_right (by omega)] at hx
        have hj : j - P.out.length = 0 := by
          have := (List.getElem?_eq_some_iff.1 hx).1
          simpa using this
        rw [hj] at hx
        rw [if_pos (by omega)]
        simpa using hx
    · rw [if_neg (by omega), if_neg (by omega)]
  clear hc hk h1 hl hput ho ht
  go_enter Try.func40, Try.ntmps40
  go_wp2
  go_region
  go_wp2
  go_end0
  exact ⟨rfl, hpost⟩
set_option maxRecDepth 10000 in
set_option maxHeartbeats 1000000 in
theorem put_full (c : UInt8) (ht : P.out.length = 64) (h : w.rowIs b T n F) (ho : o + 131 ≤ n) (hp : PortF F o P) :
    Calls Try.prog 40 #[.pointer (some ⟨b, o, none⟩), .int .u8 (c.toNat : Int)] w fun e w' => e = .returned (.tuple #[]) ∧ PortTo w w' b o n T F (P.put c) := by
  obtain ⟨hk, I, O, tk, hc⟩ := hp
  have c130 : w.cell? ⟨b, o + 130, none⟩ = some (.int .i64 64) := by rw [h.cell (by omega), hc.shows, ht]; rfl
  obtain ⟨R, hcp, hR⟩ := copy_down h.drew (o + 66) (by omega) O hc.outp (fun i => if o + 66 ≤ i ∧ i < o + 129 then F (i + 1) else F i) (fun j hj => by rw [if_pos (by omega)]) (fun j _ hn => by rw [if_neg (by omega)])
  have c130R := hR.cell (i := o + 130) (by omega)
  rw [if_neg (by omega), hc.shows, ht] at c130R
  have f130R := hR.frozen (o + 130)
  have h1 := (hR.set (o + 130) (.int .i64 63)).drew
  have c130' := h1.cell (i := o + 130) (by omega)
  rw [if_pos rfl] at c130'
  have cl := h1.cell (i := o + 129) (by omega)
  have fl := h1.frozen (o + 129)
  have h2 := h1.set (o + 129) (.int .u8 (c.toNat : Int))
  have c130'' := h2.cell (i := o + 130) (by omega)
  rw [if_neg (by omega), if_pos rfl] at c130''
  have f130'' := h2.frozen (o + 130)
  have h3 := h2.set (o + 130) (.int .i64 64)
  have hlen : (P.out ++ [c]).length = 65 := by simp [ht]
  have hput : (P.put c).out = (P.out ++ [c]).drop 1 := by simp [Prt.put, last64, ht]
  have hpost : PortTo w ((((w.drew.setRow b R).setCell ⟨b, o + 130, none⟩ (.int .i64 63)).drew.setCell ⟨b, o + 129, none⟩ (.int .u8 (c.toNat : Int))).setCell ⟨b, o + 130, none⟩ (.int .i64 64)) b o n T F (P.put c) := by
    refine ⟨_, h3, ⟨hk.put c, I, fun i => if i = 63 then c else O (i + 1), tk, fun i hi => ?_, ?_, ?_, hc.sum, hc.pend, fun i hi => ?_, ?_, fun j x hx => ?_⟩, fun i hi => ?_, ((((Only.refl (fun i => i = b) w).drew.setRow rfl R).setCell rfl _).drew.setCell rfl _).setCell rfl _⟩
    · rw [if_neg (by omega), if_neg (by omega), if_neg (by omega), if_neg (by omega)]; exact hc.inp i hi
    · rw [if_neg (by omega), if_neg (by omega), if_neg (by omega), if_neg (by omega)]; exact hc.typ
    · rw [if_neg (by omega), if_neg (by omega), if_neg (by omega), if_neg (by omega)]; exact hc.tak
    · rw [if_neg (by omega)]
      by_cases e : i = 63
      · rw [if_pos (by omega), if_pos e]
      · rw [if_neg (by omega), if_neg (by omega), if_pos (by omega), if_neg e, show o + 66 + i + 1 = o + 66 + (i + 1) by omega]; exact hc.outp (i + 1) (by omega)
    · rw [if_pos rfl, hput, List.length_drop, hlen]; rfl
    · rw [hput, List.getElem?_drop] at hx
      by_cases e : j = 63
      · rw [if_pos e]
        subst e
        rw [List.getElem?_append_right (by omega), ht] at hx
        simpa using hx
      · have hj : 1 + j < 65 := by rw [← hlen]; exact (List.getElem?_eq_some_iff.1 hx).1
        rw [if_neg e, show j + 1 = 1 + j by omega]
        rw [List.getElem?_append_left (by omega)] at hx
        exact hc.out (1 + j) x hx
    · rw [if_neg (by omega), if_neg (by omega), if_neg (by omega), if_neg (by omega)]
  clear hc hk h1 h2 h3 hput ho ht hlen
  go_enter Try.func40, Try.ntmps40
  go_wp2
  go_region
  go_wp2
  go_region
  go_wp2
  go_end0
  exact ⟨rfl, hpost⟩
theorem put_any (c : UInt8) (h : w.rowIs b T n F) (ho : o + 131 ≤ n) (hp : PortF F o P) :
    Calls Try.prog 40 #[.pointer (some ⟨b, o, none⟩), .int .u8 (c.toNat : Int)] w fun e w' => e = .returned (.tuple #[]) ∧ PortTo w w' b o n T F (P.put c) := by
  by_cases ht : P.out.length < 64
  · exact put_room c ht h ho hp
  · exact put_full c (by have := hp.ok.out; omega) h ho hp
end
end Go.Proofs.Ytpnlicklfemjeaa
