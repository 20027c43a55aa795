/-
  Entries of tables behind a write; behind a page laid. Plain facts: no call of the program is walked here.
-/
import Derived.Test.YtpplclenokfpeaaDoorBits
import Derived.Test.YtpplclenokfpeaaDoorRefWrite
import Derived.Test.YtpplclenokfpeaaDoorTPteMath
import Derived.Test.YtpplclenokfpeaaDoorMemFace
namespace Go.Proofs.YtpplclenokfpeaaDoor
open Go.RowKit
def mn (x y : Int) : Int := if y < x then y else x
def mx (x y : Int) : Int := if x < y then y else x
theorem run_mn {P : Program} {w : World} (ts : Array TypeId) (t : TypeId) (k k' : IntKind) (x y : Int) : (Builtin.min_ ts t #[.int k x, .int k' y]).run P w = .ok (.int k (mn x y)) w := by
  unfold mn; simp only [run_min_int2]
theorem run_mx {P : Program} {w : World} (ts : Array TypeId) (t : TypeId) (k k' : IntKind) (x y : Int) : (Builtin.max_ ts t #[.int k x, .int k' y]).run P w = .ok (.int k (mx x y)) w := by
  unfold mx; simp only [run_max_int2, gt_iff_lt]
theorem clamp_mx (n b c : Int) (h : b ≤ c) : clamp n b c = mx b (mn n c) := by
  unfold clamp mx mn; split <;> split <;> (try split) <;> omega
theorem clamp_id (n b c : Int) (h1 : b ≤ n) (h2 : n ≤ c) : clamp n b c = n := by
  unfold clamp; split <;> split <;> omega
def rsetI (v lo n x : Int) : Int := bits .or .u64 (bits .andNot .u64 v (placeI lo n)) (IntKind.u64.wrap (bits .and .u64 x (onesI (manyI lo n)) * 2 ^ (loI lo).toNat))
theorem rset_eq {v x : Int} (hv : U v) (hx : U x) (lo n : Int) : rsetI v lo n x = setI v lo n x := by
  obtain ⟨hb1, hb2⟩ := lo_bd lo
  obtain ⟨hb3, hb4⟩ := many_bd lo n
  unfold rsetI
  refine (U_or _ _).ext (U_set _ _ _ _) fun i hi => ?_
  rw [tb_or (U_andNot _ _) (U_wrap _), tb_andNot hv (U_place _ _) i hi, tb_place lo n i hi, tb_shl (U_and _ _), tb_and hx (U_ones _), tb_ones _ hb3 (by omega), tb_set hv hx _ _ _ hi]
  by_cases h : loI lo ≤ i ∧ (i : Int) < loI lo + manyI lo n
  · rw [if_pos h, decide_eq_true h, decide_eq_true hi, decide_eq_true (show (loI lo).toNat ≤ i by omega), decide_eq_true (show ((i - (loI lo).toNat : Nat) : Int) < manyI lo n by omega)]
    simp
  · rw [if_neg h, decide_eq_false h, decide_eq_true hi]
    by_cases h2 : (loI lo).toNat ≤ i
    · rw [decide_eq_false (show ¬ ((i - (loI lo).toNat : Nat) : Int) < manyI lo n by omega)]; simp
    · rw [decide_eq_false h2]; simp
theorem whole64 {v : Int} (hv : U v) (n : Int) (hk : clamp n 1 64 = 64) : sextI v n = v ∧ zextI v n = v := by
  constructor
  · refine (U_sext _ _).ext hv fun i hi => ?_
    rw [tb_sext hv _ _ hi, hk, if_pos (by omega)]
  · refine (U_zext _).ext hv fun i hi => ?_
    rw [tb_zext hv, hk, decide_eq_true (by omega), Bool.and_true]
theorem and_ones {v : Int} (hv : U v) (n K : Int) (hk : clamp n 1 64 = K) : bits .and .u64 v (onesI K) = zextI v n := by
  obtain ⟨hb1, hb2⟩ := clamp_bd n 1 64 (by omega)
  refine (U_and _ _).ext (U_zext _) fun i hi => ?_
  rw [tb_and hv (U_ones _), tb_ones _ (by omega) (by omega), tb_zext hv, hk]
theorem top_bit {v : Int} (hv : U v) (K : Int) (h0 : 1 ≤ K) (h1 : K < 64) : (bits .and .u64 v (onesI K) / 2 ^ (K.toNat - 1) == 1) = tb v (K - 1).toNat := by
  have hU0 : U 0 := by unfold U; omega
  have hU1 : U 1 := by unfold U; omega
  have hx := U_shr (U_and v (onesI K)) (K.toNat - 1)
  have ht : ∀ i, tb (bits .and .u64 v (onesI K) / 2 ^ (K.toNat - 1)) i = (decide (i = 0) && tb v (K - 1).toNat) := by
    intro i
    rw [tb_shr (U_and _ _), tb_and hv (U_ones _), tb_ones _ (by omega) (by omega)]
    by_cases h : i = 0
    · subst h; rw [decide_eq_true (by omega), show 0 + (K.toNat - 1) = (K - 1).toNat by omega]; simp
    · rw [decide_eq_false (by omega), decide_eq_false h]; simp
  have t1 : ∀ i, tb 1 i = decide (i = 0) := by
    intro i
    by_cases h : i = 0
    · subst h; rfl
    · rw [decide_eq_false h]
      unfold tb; exact Nat.testBit_lt_two_pow (Nat.lt_of_lt_of_le (show (1 : Int).toNat < 2 ^ 1 by decide) (Nat.pow_le_pow_right (by decide) (by omega)))
  cases hb : tb v (K - 1).toNat
  · have e : bits .and .u64 v (onesI K) / 2 ^ (K.toNat - 1) = 0 := hx.ext hU0 fun i _ => by rw [ht, hb, Bool.and_false]; simp [tb]
    rw [e]; rfl
  · have e : bits .and .u64 v (onesI K) / 2 ^ (K.toNat - 1) = 1 := hx.ext hU1 fun i _ => by rw [ht, hb, Bool.and_true, t1]
    rw [e]; rfl
end Go.Proofs.YtpplclenokfpeaaDoor
namespace Go.Proofs.YtpplclenokfpeaaDoor
open Go.RowKit
/-- Whether there is such an entry. -/
def entO (f i : Int) : Bool := decide (0 ≤ f ∧ f < 128 ∧ 0 ≤ i ∧ i < 16)
/-- An entry; 0 of none. -/
def entE (B : Nat → Int) (f i : Int) : Int := bif entO f i then rdF B (f * 256 + 8 * i).toNat 8 else 0
/-- What a walk comes to: the leaf, the frame of its place, 0, 1, 2. -/
structure Wkd where
  e : Int
  f : Int
  c : Int
def topI (at_ : Int) : Int := at_ / 4096 % 16
def lowI (at_ : Int) : Int := at_ / 256 % 16
def wkS (B : Nat → Int) (root at_ : Int) : Wkd :=
  if 65536 ≤ at_ then ⟨0, 0, 1⟩ else
  if entO root (topI at_) = false then ⟨0, 0, 2⟩ else
  if isE (entE B root (topI at_)) = false then ⟨0, 0, 1⟩ else
  if leafE (entE B root (topI at_)) = true then
    (if frI (entE B root (topI at_)) % 16 = 0 then ⟨entE B root (topI at_) + lowI at_ * 256, frI (entE B root (topI at_)) + lowI at_, 0⟩ else ⟨0, 0, 1⟩) else
  if entO (frI (entE B root (topI at_))) (lowI at_) = false then ⟨0, 0, 2⟩ else
  if leafE (entE B (frI (entE B root (topI at_))) (lowI at_)) = true then ⟨entE B (frI (entE B root (topI at_))) (lowI at_), frI (entE B (frI (entE B root (topI at_))) (lowI at_)), 0⟩ else ⟨0, 0, 1⟩
theorem U_ent {B : Nat → Int} (hB : ∀ i, i < 32768 → 0 ≤ B i ∧ B i < 256) (f i : Int) : U (entE B f i) := by
  unfold entE
  cases h : entO f i
  · rw [cond_false]; unfold U; omega
  · rw [cond_true]
    have hh := of_decide_eq_true h
    exact rd_bd 8 _ (by omega) hB
theorem top_bd (a : Int) : 0 ≤ topI a ∧ topI a < 16 := by unfold topI; omega
theorem low_bd (a : Int) : 0 ≤ lowI a ∧ lowI a < 16 := by unfold lowI; omega
theorem fr_bd (e : Int) : 0 ≤ frI e ∧ frI e < 256 := by unfold frI; omega
/-- An entry that is one has sixteen bits. -/
theorem is_small {e : Int} (he : U e) (h : isE e = true) : 0 ≤ e ∧ e < 65536 := by
  unfold isE at h
  simp only [Bool.and_eq_true, beq_iff_eq] at h
  have := he.1
  omega
theorem leaf_is {e : Int} (h : leafE e = true) : isE e = true := by
  unfold leafE at h
  rw [Bool.and_eq_true] at h
  exact h.1
/-- A great page's leaf with the place's frame in it. -/
theorem great_or {e l : Int} (he : U e) (h : isE e = true) (hf : frI e % 16 = 0) (h0 : 0 ≤ l) (h1 : l < 16) : bits .or .u64 e (l * 256) = e + l * 256 := by
  obtain ⟨e0, e1⟩ := is_small he h
  obtain ⟨E, rfl⟩ := Int.eq_ofNat_of_zero_le e0
  obtain ⟨L, rfl⟩ := Int.eq_ofNat_of_zero_le h0
  unfold frI at hf
  obtain ⟨H, G, hE⟩ : ∃ H G : Nat, E = 4096 * H + G ∧ G < 256 := ⟨E / 4096, E % 4096, by omega, by omega⟩
  have hG := hE.2
  have hb : 256 * L < 2 ^ 12 := by omega
  have c1 : (256 * L) ||| G = 256 * L + G := by
    exact (Nat.two_pow_add_eq_or_of_lt (i := 8) (b := G) (by omega) L).symm
  have c2 : (4096 * H) ||| G = 4096 * H + G := by
    exact (Nat.two_pow_add_eq_or_of_lt (i := 12) (b := G) (by omega) H).symm
  have c3 : (4096 * H) ||| (256 * L + G) = 4096 * H + (256 * L + G) := by
    exact (Nat.two_pow_add_eq_or_of_lt (i := 12) (b := 256 * L + G) (by omega) H).symm
  have e2 : ((L : Int) * 256) = ((256 * L : Nat) : Int) := by omega
  rw [e2, bits_or, BitVec.toNat_or, BitVec.ofInt_natCast, BitVec.ofInt_natCast, BitVec.toNat_ofNat, BitVec.toNat_ofNat, Nat.mod_eq_of_lt (by omega), Nat.mod_eq_of_lt (by omega), hE.1, ← c2, Nat.or_assoc, Nat.or_comm G, c1, c3]
  omega
/-- A frame of a great page, with the place's in it. -/
theorem frame_or {f l : Int} (f0 : 0 ≤ f) (f1 : f < 256) (hf : f % 16 = 0) (h0 : 0 ≤ l) (h1 : l < 16) : bits .or .i64 f l = f + l := by
  obtain ⟨F, rfl⟩ := Int.eq_ofNat_of_zero_le f0
  obtain ⟨L, rfl⟩ := Int.eq_ofNat_of_zero_le h0
  obtain ⟨H, hE⟩ : ∃ H : Nat, F = 16 * H := ⟨F / 16, by omega⟩
  have c1 : (16 * H) ||| L = 16 * H + L := by
    exact (Nat.two_pow_add_eq_or_of_lt (i := 4) (b := L) (by omega) H).symm
  have h : bits .or .i64 (F : Int) (L : Int) = IntKind.i64.wrap ((BitVec.ofInt 64 (F : Int) ||| BitVec.ofInt 64 (L : Int)).toNat : Int) := rfl
  rw [h, BitVec.toNat_or, BitVec.ofInt_natCast, BitVec.ofInt_natCast, BitVec.toNat_ofNat, BitVec.toNat_ofNat, Nat.mod_eq_of_lt (by omega), Nat.mod_eq_of_lt (by omega), hE, c1, IntKind.wrap_i64]
  omega
end Go.Proofs.YtpplclenokfpeaaDoor
namespace Go.Proofs.YtpplclenokfpeaaDoor
open Go.RowKit
theorem mod_step (x : Int) (M : Nat) : x % 256 + 256 * (x / 256 % 256 ^ M) = x % 256 ^ (M + 1) := by
  rw [Int.pow_succ]
  have h1 := Int.emod_add_mul_ediv x 256
  have h2 := Int.emod_add_mul_ediv (x / 256) (256 ^ M)
  have hp : (0 : Int) < 256 ^ M := Int.pow_pos (by decide)
  have h3 : (x % 256 + 256 * (x / 256 % 256 ^ M)) + (256 ^ M * 256) * (x / 256 / 256 ^ M) = x := by
    have e : (256 ^ M * 256) * (x / 256 / 256 ^ M) = 256 * (256 ^ M * (x / 256 / 256 ^ M)) := by
      rw [Int.mul_comm (256 ^ M) 256, Int.mul_assoc]
    rw [e, Int.add_assoc, ← Int.mul_add, h2, h1]
  have b1 := Int.emod_nonneg x (show (256 : Int) ≠ 0 by decide)
  have b2 := Int.emod_lt_of_pos x (show (0 : Int) < 256 by decide)
  have b3 := Int.emod_nonneg (x / 256) (Int.ne_of_gt hp)
  have b4 := Int.emod_lt_of_pos (x / 256) hp
  have h4 : x % 256 + 256 * (x / 256 % 256 ^ M) < 256 ^ M * 256 := by omega
  conv => rhs; rw [← h3]
  rw [Int.add_mul_emod_self_left, Int.emod_eq_of_lt (by omega) h4]
theorem rd_wr (B : Nat → Int) (a n : Nat) (v : Int) : ∀ (k i : Nat), i + k ≤ n → rdF (wrF B a n v) (a + i) k = v / 256 ^ i % 256 ^ k
  | 0, i, _ => by simp [rdF, Int.emod_one]
  | k + 1, i, h => by
    have ih := rd_wr B a n v k (i + 1) (by omega)
    rw [rdF, show a + i + 1 = a + (i + 1) by omega, ih]
    have e : wrF B a n v (a + i) = v / 256 ^ i % 256 := by
      unfold wrF
      rw [if_pos (by omega), Nat.add_sub_cancel_left]
    rw [e, Int.pow_succ (256 : Int) i, ← Int.ediv_ediv_of_nonneg (Int.le_of_lt (Int.pow_pos (by decide)))]
    exact mod_step _ _
theorem rd_word {B : Nat → Int} {a : Nat} {v : Int} (hv : U v) : rdF (wrF B a 8 v) a 8 = v := by
  have r := rd_wr B a 8 v 8 0 (by omega)
  rw [Nat.add_zero] at r
  rw [r]
  have := hv.1; have := hv.2
  simp only [Int.pow_zero, Int.ediv_one]
  exact Int.emod_eq_of_lt (by omega) (by omega)
theorem rd_far {B : Nat → Int} {a b : Nat} {v : Int} (h : a + 8 ≤ b ∨ b + 8 ≤ a) : rdF (wrF B a 8 v) b 8 = rdF B b 8 :=
  rd_congr 8 b fun i h1 h2 => by unfold wrF; rw [if_neg (by omega)]
theorem ent_code {f i : Int} (h : entO f i = true) : codeI (f * 256 + 8 * i) 8 = 0 := by
  have hh := of_decide_eq_true h
  exact code_0 (by omega) (by omega) (by omega)
theorem wrZ_word {B : Nat → Int} {a v : Int} (h : codeI a 8 = 0) : wrZ B a 8 v = wrF B a.toNat 8 v := by
  unfold wrZ; rw [if_pos h]; rfl
/-- What a write of an entry leaves of all entries. -/
theorem ent_wr {B : Nat → Int} {f i g j v : Int} (ho : entO g j = true) (hv : U v) : entE (wrZ B (g * 256 + 8 * j) 8 v) f i = if f = g ∧ i = j then v else entE B f i := by
  have hg := of_decide_eq_true ho
  rw [wrZ_word (ent_code ho)]
  unfold entE
  cases h : entO f i
  · rw [cond_false, cond_false, if_neg]
    rintro ⟨rfl, rfl⟩
    rw [ho] at h
    cases h
  · have hf := of_decide_eq_true h
    rw [cond_true, cond_true]
    by_cases e : f = g ∧ i = j
    · rw [if_pos e, e.1, e.2]
      exact rd_word hv
    · rw [if_neg e]
      refine rd_far ?_
      by_cases e1 : f = g
      · have : i ≠ j := fun x => e ⟨e1, x⟩
        omega
      · omega
theorem rd_zero : ∀ (n a : Nat), rdF (fun _ => 0) a n = 0
  | 0, _ => rfl
  | n + 1, a => by rw [rdF, rd_zero n (a + 1)]; rfl
theorem ent_zero (f i : Int) : entE (fun _ => 0) f i = 0 := by
  unfold entE
  rw [rd_zero]
  cases entO f i <;> rfl
/-- A page, held. -/
def pgI (p : Int) : Int := mx 0 (mn p 255)
theorem pg_bd (p : Int) : 0 ≤ pgI p ∧ pgI p ≤ 255 := by
  unfold pgI mx mn
  split <;> split <;> omega
/-- Whether both frames are memory's. -/
def layO (root low : Int) : Bool := decide (0 ≤ root ∧ root < 128 ∧ 0 ≤ low ∧ low < 128)
/-- Memory behind a page laid. -/
def layT (B : Nat → Int) (root low page e : Int) : Nat → Int :=
  bif layO root low then wrZ (wrZ B (low * 256 + 8 * (pgI page % 16)) 8 e) (root * 256 + 8 * (pgI page / 16)) 8 (makI low 1) else B
theorem lay_low {root low page : Int} (h : layO root low = true) : entO low (pgI page % 16) = true := by
  have hh := of_decide_eq_true h
  exact decide_eq_true (by omega)
theorem lay_top {root low page : Int} (h : layO root low = true) : entO root (pgI page / 16) = true := by
  have hh := of_decide_eq_true h
  have := pg_bd page
  exact decide_eq_true (by omega)
theorem ent_lay {B : Nat → Int} {root low page e f i : Int} (h : layO root low = true) (he : U e) : entE (layT B root low page e) f i = if f = root ∧ i = pgI page / 16 then makI low 1 else if f = low ∧ i = pgI page % 16 then e else entE B f i := by
  unfold layT
  rw [h, cond_true, ent_wr (lay_top h) (U_made low 1), ent_wr (lay_low h) he]
end Go.Proofs.YtpplclenokfpeaaDoor
