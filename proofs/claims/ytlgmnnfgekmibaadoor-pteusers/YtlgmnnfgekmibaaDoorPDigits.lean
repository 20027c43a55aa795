/-
  What the document's Digits answers: walked, for every number with at most twenty digits.
-/
import Derived.Test.YtlgmnnfgekmibaaDoorBase
namespace Go.Proofs.YtlgmnnfgekmibaaDoor
open Go.RowKit
/-- The digits of a number, the greatest first (f: more than it has). -/
def dgF : Nat → Nat → List UInt8
  | 0, _ => []
  | f + 1, n => if n < 10 then [UInt8.ofNat (48 + n)] else dgF f (n / 10) ++ [UInt8.ofNat (48 + n % 10)]
def dgI (n : Int) : List UInt8 := if n < 0 then 45 :: dgF 20 (-n).toNat else dgF 20 n.toNat
def bs (l : List UInt8) : ByteArray := ⟨l.toArray⟩
theorem bs_app (a b : List UInt8) : bs a ++ bs b = bs (a ++ b) := by
  apply ByteArray.ext
  simp [bs]
theorem dgF_small {f n : Nat} (hf : 0 < f) (hn : n < 10) : dgF f n = [UInt8.ofNat (48 + n)] := by
  obtain ⟨g, rfl⟩ : ∃ g, f = g + 1 := ⟨f - 1, by omega⟩
  rw [dgF, if_pos hn]
theorem dgF_step {f n : Nat} (hn : ¬ n < 10) : dgF (f + 1) n = dgF f (n / 10) ++ [UInt8.ofNat (48 + n % 10)] := by
  rw [dgF, if_neg hn]
theorem conv1 (w : World) (d : Int) :
    (convert 38 9 (.slice (some ⟨w.heap.size, 0, none⟩) 1 1)).run Tryd.prog (w.alloc (.cells #[.int .u8 d] 5)) = .ok (.string (bs [UInt8.ofNat d.toNat])) (w.alloc (.cells #[.int .u8 d] 5)) := by
  have hr := run_loadCells_list (P := Tryd.prog) (w.alloc (.cells #[.int .u8 d] 5)) ⟨w.heap.size, 0, none⟩ [.int .u8 d] (fun j v hv => by
    match j, hv with
    | 0, hv => simp at hv; subst hv; simp [Addr.add])
  rw [run_convert_bytes_string _ 38 9 5 _ _ _ (by kernel_rfl) (by kernel_rfl) (by kernel_rfl)]
  exact run_bytesToString _ ⟨w.heap.size, 0, none⟩ 1 1 [d] hr
theorem dig_of {m : Nat} : (48 + (m : Int) % 10).toNat = 48 + m % 10 := by omega
/-- l: the digits of n behind those of m. -/
def dgRel (n m : Nat) (l : ByteArray) : Prop := ∃ (f : Nat) (t : List UInt8), l = bs t ∧ dgF 20 n = dgF (f + 1) m ++ t ∧ m < 10 ^ (f + 1) ∧ t.length + f = 19
theorem dgRel.last {n m : Nat} {l c : ByteArray} (h : dgRel n m l) (hm : m < 10) (hc : c = bs [UInt8.ofNat (48 + m % 10)]) : c ++ l = bs (dgF 20 n) := by
  obtain ⟨f, t, rfl, he, _, _⟩ := h
  rw [hc, bs_app, he, dgF_small (by omega) hm, Nat.mod_eq_of_lt hm]
theorem dgRel.next {n m : Nat} {l c : ByteArray} (h : dgRel n m l) (hm : ¬ m < 10) (hc : c = bs [UInt8.ofNat (48 + m % 10)]) : dgRel n (m / 10) (c ++ l) := by
  obtain ⟨f, t, rfl, he, hb, hl⟩ := h
  match f, he, hb, hl with
  | 0, he, hb, _ => exact absurd (by simpa using hb) hm
  | f + 1, he, hb, hl =>
    refine ⟨f, UInt8.ofNat (48 + m % 10) :: t, ?_, ?_, ?_, by simp; omega⟩
    · rw [hc, bs_app]; rfl
    · rw [he, dgF_step hm]; simp
    · rw [Nat.pow_succ] at hb
      omega
def msr (v : Value) : Nat := (intOf v).toNat
def lt63 (m : Nat) : Prop := (m : Int) < 9223372036854775808
theorem dgRel.size {n m : Nat} {l : ByteArray} (h : dgRel n m l) : l.size ≤ 19 := by
  obtain ⟨f, t, rfl, _, _, hl⟩ := h
  show t.toArray.size ≤ 19
  simp
  omega
theorem add_small (P : Program) (a b r : ByteArray) (ha : a.size ≤ 1000) (hb : b.size ≤ 1000) (hr : a ++ b = r) (w : World) : (Op.stringOp .add a b).run P w = .ok (.string r) w := by
  rw [← hr]
  exact run_string_add_sum w a b (by omega)
set_option maxRecDepth 100000 in
set_option maxHeartbeats 1000000 in
theorem digits_pos (n : Int) (h0 : 0 ≤ n) (h1 : n < 9223372036854775808) (w : World) :
    Calls Tryd.prog 25 #[.int .i64 n] w fun e w' => e = .returned (.string (bs (dgF 20 n.toNat))) ∧ Grown w w' := by
  obtain ⟨N, hN⟩ : ∃ N, n.toNat = N := ⟨_, rfl⟩
  rw [hN]
  obtain ⟨A, hA⟩ : ∃ A, bs (dgF 20 N) = A := ⟨_, rfl⟩
  rw [hA]
  go_enter Tryd.func25, Tryd.ntmps25
  go_wp2
  go_loopw [0, 3] (fun i s wr => ∃ (m : Nat) (l : ByteArray), i = .int .i64 m ∧ s = .string l ∧ dgRel N m l ∧ lt63 m ∧ Grown w wr) (fun i _ _ => msr i)
  case atStart => exact ⟨N, ⟨#[]⟩, by rw [← hN, Int.toNat_of_nonneg h0], rfl, ⟨19, [], rfl, by simp, by omega, rfl⟩, by unfold lt63; omega, Grown.refl _⟩
  case round =>
    obtain ⟨m, l, rfl, rfl, he, hm4, hg⟩ := hrel
    have hm3 : (m : Int) < 9223372036854775808 := hm4
    clear hm4
    have hc := conv1 wr (48 + (m : Int) % 10)
    rw [dig_of] at hc
    obtain ⟨c, hcc⟩ : ∃ c, c = bs [UInt8.ofNat (48 + m % 10)] := ⟨_, rfl⟩
    rw [← hcc] at hc
    have hls := he.size
    have hcs : c.size = 1 := by rw [hcc]; rfl
    by_cases h10 : m < 10
    · have hq : (m : Int) / 10 = 0 := by omega
      have hz := add_small Tryd.prog c l A (by omega) (by omega) ((he.last h10 hcc).trans hA)
      clear hcc he hA hls hcs
      go_wp2
      go_ret
      exact ⟨rfl, hg.alloc _ _⟩
    · obtain ⟨q, hq⟩ : ∃ q : Nat, m / 10 = q := ⟨_, rfl⟩
      have hq1 : (m : Int) / 10 = (q : Int) := by omega
      have hq2 : ((q : Int) == 0) = false := by simp; omega
      have hq3 : lt63 q := by unfold lt63; omega
      have hx := he.next h10 hcc
      rw [hq] at hx
      have hlt : q < m := by omega
      obtain ⟨R, hR⟩ : ∃ R, c ++ l = R := ⟨_, rfl⟩
      have hz := add_small Tryd.prog c l R (by omega) (by omega) hR
      rw [hR] at hx
      clear hcc he hA hls hcs hR hq h10
      go_wp2
      refine ⟨⟨q, R, rfl, rfl, hx, hq3, hg.alloc _ _⟩, ?_⟩
      unfold msr
      simp [intOf]
      exact hlt
theorem dgF_len : ∀ (f n : Nat), (dgF f n).length ≤ f
  | 0, n => by simp [dgF]
  | f + 1, n => by
    unfold dgF
    split
    · simp
    · have := dgF_len f (n / 10)
      simp
      exact this
theorem dgI_len (n : Int) : (dgI n).length ≤ 21 := by
  unfold dgI
  split
  · have := dgF_len 20 (-n).toNat
    simp
    omega
  · have := dgF_len 20 n.toNat
    omega
theorem bs_size (l : List UInt8) : (bs l).size = l.length := by
  show l.toArray.size = _
  simp
theorem add_bs (P : Program) (a b : List UInt8) (h : a.length + b.length ≤ 1000) (w : World) : (Op.stringOp .add (bs a) (bs b)).run P w = .ok (.string (bs (a ++ b))) w := by
  rw [← bs_app]
  exact run_string_add_sum w _ _ (by rw [bs_size, bs_size]; omega)
set_option maxRecDepth 100000 in
set_option maxHeartbeats 1000000 in
theorem digits_any (n : Int) (h0 : -9223372036854775808 < n) (h1 : n < 9223372036854775808) (w : World) :
    Calls Tryd.prog 25 #[.int .i64 n] w fun e w' => e = .returned (.string (bs (dgI n))) ∧ Grown w w' := by
  by_cases hn : n < 0
  · have hp := digits_pos (-n) (by omega) (by omega)
    obtain ⟨D, hD⟩ : ∃ D, dgF 20 (-n).toNat = D := ⟨_, rfl⟩
    have hl : D.length ≤ 20 := by rw [← hD]; exact dgF_len _ _
    have hz := add_bs Tryd.prog [45] D (by simp; omega)
    have he : dgI n = 45 :: D := by unfold dgI; rw [if_pos hn, hD]
    rw [he]
    rw [hD] at hp
    clear hD hl he
    go_enter Tryd.func25, Tryd.ntmps25
    have hz' : ∀ w : World, (Op.stringOp .add ⟨#[45]⟩ (bs D)).run Tryd.prog w = .ok (.string (bs (45 :: D))) w := hz
    clear hz
    go_wp2_with fail
    refine (hp w).mono ?_
    rintro e w' ⟨rfl, hg⟩
    go_wp2_with fail
    go_ret
    exact ⟨rfl, hg⟩
  · have he : dgI n = dgF 20 n.toNat := by unfold dgI; rw [if_neg hn]
    rw [he]
    exact digits_pos n (by omega) h1 w
end Go.Proofs.YtlgmnnfgekmibaaDoor
