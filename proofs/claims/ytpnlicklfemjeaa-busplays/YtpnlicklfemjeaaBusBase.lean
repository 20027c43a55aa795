/-
  Rows whose content is said by the index: new cells in them, texts copied in, read as texts. A port of the console, as the document tells it. Plain facts on worlds, numbers and lists: no call of the program is walked here.
-/
import Derived.Test.YtpnlicklfemjeaaMemFace
import Derived.Laws.CopyRow
namespace Go.Proofs.Ytpnlicklfemjeaa
open Go.RowKit
/-- A row with new cells in it. -/
theorem row_splice {w : World} {b : Nat} {t : TypeId} {n : Nat} {f : Nat → Value} (h : w.rowIs b t n f) {cur : Array Value} (hcur : w.heap[b]? = some (.cells cur t (0, 0))) (o : Nat) (vs : List Value) (ho : o + vs.length ≤ n) (g : Nat → Value)
    (hin : ∀ j, j < vs.length → vs[j]? = some (g (o + j))) (hout : ∀ j, j < n → ¬ (o ≤ j ∧ j < o + vs.length) → g j = f j) :
    (w.setRow b (cur.toList.take o ++ vs ++ cur.toList.drop (o + vs.length)).toArray).rowIs b t n g := by
  obtain ⟨c, hb, hs, hcs⟩ := h
  rw [hcur] at hb
  obtain rfl : cur = c := by simpa using hb
  refine ⟨_, setRow_heap w b cur _ t (0, 0) hcur, by simp [hs]; omega, fun i hi => ?_⟩
  rw [List.getElem?_toArray]
  by_cases h1 : i < o
  · rw [List.getElem?_append_left (by simp [hs]; omega), List.getElem?_append_left (by simp [hs]; omega), List.getElem?_take, if_pos h1, Array.getElem?_toList, hcs i hi, hout i hi (by omega)]
  · by_cases h2 : i < o + vs.length
    · rw [List.getElem?_append_left (by simp [hs]; omega), List.getElem?_append_right (by simp [hs]; omega)]
      have e : i - (cur.toList.take o).length = i - o := by simp [hs]; omega
      rw [e, hin (i - o) (by omega), show o + (i - o) = i by omega]
    · rw [List.getElem?_append_right (by simp [hs]; omega), List.getElem?_drop, Array.getElem?_toList]
      have e : o + vs.length + (i - (cur.toList.take o ++ vs).length) = i := by simp [hs]; omega
      rw [e, hcs i hi, hout i hi (by omega)]
/-- A text copied into a row of it. -/
theorem copy_text_row {w : World} {b n : Nat} {t : TypeId} {f : Nat → Value} (h : w.rowIs b t n f) (o l c k : Nat) (s : ByteArray) (hk : k = min s.size l) (ho : o + l ≤ n) (g : Nat → Value)
    (hin : ∀ j, j < k → g (o + j) = .int .u8 ((s.data.toList.getD j 0).toNat : Int)) (hout : ∀ j, j < n → ¬ (o ≤ j ∧ j < o + k) → g j = f j) :
    ∃ R, (Builtin.copy_ #[67, 9] 3 #[.slice (some ⟨b, o, none⟩) l c, .string s]).run Try.prog w = .ok (goInt k) (w.setRow b R) ∧ (w.setRow b R).rowIs b t n g := by
  have hu : Try.prog.underlying 67 = some (.slice 5) := by kernel_rfl
  have hs : (Try.prog.info? 5).map (·.size) = some 1 := by kernel_rfl
  obtain ⟨cur, hb, hsz, _⟩ := id h
  have hlen : ((s.data.toList.map (fun b => Value.int .u8 b.toNat)).take k).length = k := by simp; omega
  have hst := run_storeCells_at Try.prog b o t ((s.data.toList.map (fun b => Value.int .u8 b.toNat)).take k) 0 cur w hb (by rw [hlen, hsz]; omega) (by
    intro v hv
    obtain ⟨b, _, rfl⟩ := List.mem_map.1 (List.mem_of_mem_take hv)
    rfl)
  rw [hlen, Nat.add_zero] at hst
  have hsp := row_splice h hb o ((s.data.toList.map (fun b => Value.int .u8 b.toNat)).take k) (by rw [hlen]; omega) g (fun j hj => by
    rw [hlen] at hj
    rw [hin j hj, List.getElem?_take, if_pos hj, List.getElem?_map]
    have hj' : j < s.data.toList.length := by simp; omega
    rw [List.getElem?_eq_getElem hj', List.getD_eq_getElem?_getD, List.getElem?_eq_getElem hj']
    rfl) (fun j hj hn => hout j hj (by rwa [hlen] at hn))
  rw [hlen] at hsp
  refine ⟨_, ?_, hsp⟩
  cases hq : Try.prog.info? 5 with
  | none => simp [hq] at hs
  | some i =>
    have hi : i.size = 1 := by simpa [hq] using hs
    have hkk : Nat.min s.size l = k := hk.symm
    simp [Builtin.copy_, run_underlying hu, Builtin.lenOf, Builtin.firstCells, sizeOf, typeInfo, hq, hkk]
    rw [← List.map_take] at hst
    rw [← List.map_take, hst]
    simp
/-- Nothing copied: there is no room. -/
theorem copy_no_room (ad : Option Addr) (c : Nat) (s : ByteArray) (w : World) : (Builtin.copy_ #[67, 9] 3 #[.slice ad 0 c, .string s]).run Try.prog w = .ok (goInt 0) w := by
  have hu : Try.prog.underlying 67 = some (.slice 5) := by kernel_rfl
  have hs : (Try.prog.info? 5).map (·.size) = some 1 := by kernel_rfl
  cases hq : Try.prog.info? 5 with
  | none => simp [hq] at hs
  | some i =>
    cases ad <;> simp [Builtin.copy_, run_underlying hu, Builtin.lenOf, Builtin.firstCells, sizeOf, typeInfo, hq, storeCells]
def bs (l : List UInt8) : ByteArray := ⟨l.toArray⟩
theorem bs_size (l : List UInt8) : (bs l).size = l.length := by simp [bs, ByteArray.size]
theorem bs_list (l : List UInt8) : (bs l).data.toList = l := by simp [bs]
theorem bs_data (s : ByteArray) : bs s.data.toList = s := by simp [bs]
/-- A piece of a row of bytes as a text. -/
theorem conv_row {w : World} {b n : Nat} {t : TypeId} {f : Nat → Value} (h : w.rowIs b t n f) (o l c : Nat) (ho : o + l ≤ n) (s : List UInt8) (hl : s.length = l) (hc : ∀ j x, s[j]? = some x → f (o + j) = .int .u8 (x.toNat : Int)) :
    (convert 67 9 (.slice (some ⟨b, o, none⟩) l c)).run Try.prog w = .ok (.string (bs s)) w := by
  rw [run_convert_bytes_string _ 67 9 5 _ _ _ (by kernel_rfl) (by kernel_rfl) (by kernel_rfl)]
  have hl' : ((s.map fun x => (x.toNat : Int)).map (Value.int .u8)).length = l := by simpa using hl
  have hr := run_loadCells_list (P := Try.prog) w ⟨b, o, none⟩ ((s.map fun x => (x.toNat : Int)).map (Value.int .u8)) (by
    intro j v hj
    simp only [List.getElem?_map, Option.map_map, Option.map_eq_some_iff] at hj
    obtain ⟨x, hx, rfl⟩ := hj
    have hlt : j < l := by rw [← hl]; exact (List.getElem?_eq_some_iff.1 hx).1
    rw [show (⟨b, o, none⟩ : Addr).add j = ⟨b, o + j, none⟩ by simp [Addr.add], h.cell (by omega), hc j x hx]
    rfl)
  rw [hl'] at hr
  rw [run_bytesToString _ _ _ _ _ hr]
  congr 2
  have e := str_list (s.map fun x => (x.toNat : Int))
  unfold strOf at e
  have e2 : (List.foldl (fun r n => r.push (UInt8.ofNat n.toNat)) ByteArray.empty (s.map fun x => (x.toNat : Int))).data.toList = s := by
    rw [e, List.map_map]
    conv => rhs; rw [← List.map_id s]
    exact List.map_congr_left fun x _ => by simp
  rw [← bs_data (List.foldl _ _ _), e2]
/-- A port: what is to be read yet, how many bytes were ever typed, what was put out. -/
structure Prt where
  pend : List UInt8
  typ : Nat
  out : List UInt8
structure Prt.Ok (P : Prt) : Prop where
  typ : P.typ ≤ 64
  pend : P.pend.length ≤ P.typ
  out : P.out.length ≤ 64
def Prt.new : Prt := ⟨[], 0, []⟩
def Prt.type (P : Prt) (s : List UInt8) : Prt := ⟨P.pend ++ s.take (64 - P.typ), P.typ + min s.length (64 - P.typ), P.out⟩
def Prt.take (P : Prt) : Prt := ⟨P.pend.tail, P.typ, P.out⟩
def Prt.first (P : Prt) : Int := ((P.pend.headD 0).toNat : Int)
def last64 (l : List UInt8) : List UInt8 := l.drop (l.length - 64)
def Prt.put (P : Prt) (c : UInt8) : Prt := ⟨P.pend, P.typ, last64 (P.out ++ [c])⟩
theorem Prt.Ok.new : Prt.new.Ok := ⟨by decide, by decide, by decide⟩
theorem Prt.Ok.type {P : Prt} (h : P.Ok) (s : List UInt8) : (P.type s).Ok := by
  have := h.typ; have := h.pend; have := h.out
  refine ⟨?_, ?_, ?_⟩ <;> simp only [Prt.type, List.length_append, List.length_take] <;> omega
theorem Prt.Ok.take {P : Prt} (h : P.Ok) : P.take.Ok := by
  have := h.typ; have := h.pend; have := h.out
  refine ⟨?_, ?_, ?_⟩ <;> simp only [Prt.take, List.length_tail] <;> omega
theorem Prt.Ok.put {P : Prt} (h : P.Ok) (c : UInt8) : (P.put c).Ok := by
  have := h.typ; have := h.pend; have := h.out
  refine ⟨?_, ?_, ?_⟩ <;> simp only [Prt.put, last64, List.length_drop, List.length_append, List.length_cons, List.length_nil] <;> omega
/-- The cells of a port, from o on: 64 bytes of input, how many were typed, how many taken, 64 bytes of output, how many there are. -/
structure PortC (F : Nat → Value) (o : Nat) (P : Prt) (I O : Nat → UInt8) (tk : Nat) : Prop where
  inp : ∀ i, i < 64 → F (o + i) = .int .u8 ((I i).toNat : Int)
  typ : F (o + 64) = .int .i64 (P.typ : Int)
  tak : F (o + 65) = .int .i64 (tk : Int)
  sum : tk + P.pend.length = P.typ
  pend : ∀ j x, P.pend[j]? = some x → I (tk + j) = x
  outp : ∀ i, i < 64 → F (o + 66 + i) = .int .u8 ((O i).toNat : Int)
  shows : F (o + 130) = .int .i64 (P.out.length : Int)
  out : ∀ j x, P.out[j]? = some x → O j = x
structure PortF (F : Nat → Value) (o : Nat) (P : Prt) : Prop where
  ok : P.Ok
  ex : ∃ (I O : Nat → UInt8) (tk : Nat), PortC F o P I O tk
theorem PortF.congr {F G : Nat → Value} {o : Nat} {P : Prt} (h : PortF F o P) (e : ∀ i, o ≤ i → i < o + 131 → G i = F i) : PortF G o P := by
  obtain ⟨hk, I, O, tk, hc⟩ := h
  exact ⟨hk, I, O, tk, fun i hi => by rw [e _ (by omega) (by omega)]; exact hc.inp i hi, by rw [e _ (by omega) (by omega)]; exact hc.typ, by rw [e _ (by omega) (by omega)]; exact hc.tak, hc.sum, hc.pend,
    fun i hi => by rw [e _ (by omega) (by omega)]; exact hc.outp i hi, by rw [e _ (by omega) (by omega)]; exact hc.shows, hc.out⟩
/-- What a call on a port leaves: the row as it was but for that port's cells. -/
def PortTo (w w' : World) (b o n : Nat) (T : TypeId) (F : Nat → Value) (P : Prt) : Prop :=
  ∃ F', w'.rowIs b T n F' ∧ PortF F' o P ∧ (∀ i, ¬ (o ≤ i ∧ i < o + 131) → F' i = F i) ∧ Only (fun i => i = b) w w'
end Go.Proofs.Ytpnlicklfemjeaa
