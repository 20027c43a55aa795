/-
  What the calls of package two's way answer (toEntry, goSecond, toLeaf): walked whole, for every argument.
-/
import Derived.Test.YtpplclenokfpeaaDoorTTwoA
import Derived.Test.YtpplclenokfpeaaDoorRefFirst
import Derived.Deep.RegionHeld3
import Derived.Deep.MidRow
import Derived.Deep.QuietTactic
import Derived.BigQuiet
import Derived.Deep.Cut
namespace Go.Proofs.YtpplclenokfpeaaDoor
open Go.RowKit
/-- An access on its way. -/
def wyA (m : Value) (a : AskM) (at_ k : Int) (user : Bool) (place lies bts host : Int) : Array Value :=
  #[m, .bool a.first, .bool a.second, .bool a.sum, .bool a.mxr, .int .i64 a.asid, .int .i64 a.vmid, .int .i64 a.root, .int .i64 a.host, .int .u64 at_, .int .i64 k, .bool user, .int .u64 place, .int .u64 lies, .int .i64 bts, .int .i64 host]
abbrev Wy (w : World) (b : Nat) (m : Value) (a : AskM) (at_ k : Int) (user : Bool) (place lies bts host : Int) : Prop := Blk w b 75 (wyA m a at_ k user place lies bts host)
section
variable {w : World} {b : Nat} {m : Value} {a : AskM} {at_ k : Int} {user : Bool} {place lies bts host : Int}
theorem wy_cells (h : Wy w b m a at_ k user place lies bts host) : w.cell? ⟨b, 0, none⟩ = some m ∧ w.cell? ⟨b, 1, none⟩ = some (.bool a.first) ∧ w.cell? ⟨b, 2, none⟩ = some (.bool a.second) ∧ w.cell? ⟨b, 3, none⟩ = some (.bool a.sum) ∧ w.cell? ⟨b, 4, none⟩ = some (.bool a.mxr) ∧ w.cell? ⟨b, 5, none⟩ = some (.int .i64 a.asid) ∧ w.cell? ⟨b, 6, none⟩ = some (.int .i64 a.vmid) ∧ w.cell? ⟨b, 7, none⟩ = some (.int .i64 a.root) ∧ w.cell? ⟨b, 8, none⟩ = some (.int .i64 a.host) ∧ w.cell? ⟨b, 9, none⟩ = some (.int .u64 at_) ∧ w.cell? ⟨b, 10, none⟩ = some (.int .i64 k) ∧ w.cell? ⟨b, 11, none⟩ = some (.bool user) ∧ w.cell? ⟨b, 12, none⟩ = some (.int .u64 place) ∧ w.cell? ⟨b, 13, none⟩ = some (.int .u64 lies) ∧ w.cell? ⟨b, 14, none⟩ = some (.int .i64 bts) ∧ w.cell? ⟨b, 15, none⟩ = some (.int .i64 host) :=
  ⟨h.cell 0, h.cell 1, h.cell 2, h.cell 3, h.cell 4, h.cell 5, h.cell 6, h.cell 7, h.cell 8, h.cell 9, h.cell 10, h.cell 11, h.cell 12, h.cell 13, h.cell 14, h.cell 15⟩
theorem load_asking (h : Wy w b m a at_ k user place lies bts host) : (loadVar 46 ⟨b, 1, none⟩).run Tryd.prog w = .ok (.agg (askA a)) w := by
  refine run_loadVar_mid w b 1 46 (askA a).toList _ ?_ Tryd.underlying46 rfl (ask_sz12 a)
  have hr := World.rangeAt_of_block h 1 8
  exact hr
structure SecAll (w : World) (p : Nat) (a : AskM) (place k : Int) (g : Gst) : Prop where
  a : ∀ w1, Kept w w1 → Calls Tryd.prog 38 #[.pointer (some ⟨p, 0, none⟩), .agg (askA a), .int .u64 place, .int .i64 k] w1 fun e w' => e = .returned (.tuple #[.int .u64 g.p, .int .i64 (gstB g), .int .i64 g.c]) ∧ Kept w1 w'
structure FrAll (e f : Int) : Prop where
  a : ∀ w1, Calls Tryd.prog 55 #[.int .u64 e] w1 fun r w' => r = .returned (.int .i64 f) ∧ w' = w1
/-- What a code of the second translation is to an access. -/
def wrongI (c : Int) : Int := if c = 1 then 2 else if c = 2 then 3 else 0
set_option maxHeartbeats 1000000 in
theorem toentry_16 (hb : Wy w b m a at_ k user place lies bts host) (h0 : 0 ≤ at_) (h1 : at_ < 65536) (t : Int) (t0 : 0 ≤ t) (t1 : t < 256) :
    Calls Tryd.prog 49 #[.pointer (some ⟨b, 0, none⟩), .int .i64 t, .int .i64 16] w fun e w' => e = .returned (.tuple #[]) ∧ Only (fun i => i = b) w w' ∧ Wy w' b m a at_ k user (t * 256 + 8 * topI at_) lies bts host := by
  have hp : t * 256 + at_ / 256 / 16 % 16 * 8 % 256 = t * 256 + 8 * topI at_ := by unfold topI; omega
  have hU : U at_ := by unfold U; omega
  have hV : U (at_ / 256 / 16 % 16 * 8) := by unfold U; omega
  have l0 : 0 ≤ at_ / 256 / 16 % 16 := by omega
  have l1 : at_ / 256 / 16 % 16 < 16 := by omega
  have l2 : 0 ≤ at_ / 256 := by omega
  obtain ⟨z0, z1, z2, z3, z4, z5, z6, z7, z8, z9, z10, z11, z12, z13, z14, z15⟩ := wy_cells hb
  clear z0 z1 z2 z3 z4 z5 z6 z7 z8 z10 z11 z13 z14 z15
  have y12 := blk_loose hb 12
  have hn : Wy (w.setCell ⟨b, 12, none⟩ (.int .u64 (t * 256 + 8 * topI at_))) b m a at_ k user (t * 256 + 8 * topI at_) lies bts host := blk_set hb 12 _
  have ho : Only (fun i => i = b) w (w.setCell ⟨b, 12, none⟩ (.int .u64 (t * 256 + 8 * topI at_))) := (Only.refl (fun i => i = b) w).setCell rfl _
  go_enter Tryd.func49, Tryd.ntmps49
  go_wp2_with fail
  refine (frameof_c hU).mono ?_
  rintro e wy ⟨rfl, hwy⟩
  rw [hwy]
  clear hwy wy
  go_wp2_with fail
  refine (placein_c hV t0 (by omega)).mono ?_
  rintro e wy ⟨rfl, hwy⟩
  rw [hwy, hp]
  clear hwy wy
  go_wp2_with fail
  go_end0
  exact ⟨rfl, ho, hn⟩
set_option maxHeartbeats 1000000 in
theorem toentry_1 (hb : Wy w b m a at_ k user place lies bts host) (h0 : 0 ≤ at_) (h1 : at_ < 65536) (t : Int) (t0 : 0 ≤ t) (t1 : t < 256) :
    Calls Tryd.prog 49 #[.pointer (some ⟨b, 0, none⟩), .int .i64 t, .int .i64 1] w fun e w' => e = .returned (.tuple #[]) ∧ Only (fun i => i = b) w w' ∧ Wy w' b m a at_ k user (t * 256 + 8 * lowI at_) lies bts host := by
  have hp : t * 256 + at_ / 256 % 16 * 8 % 256 = t * 256 + 8 * lowI at_ := by unfold lowI; omega
  have hU : U at_ := by unfold U; omega
  have hV : U (at_ / 256 % 16 * 8) := by unfold U; omega
  have l0 : 0 ≤ at_ / 256 % 16 := by omega
  have l1 : at_ / 256 % 16 < 16 := by omega
  have l2 : 0 ≤ at_ / 256 := by omega
  obtain ⟨z0, z1, z2, z3, z4, z5, z6, z7, z8, z9, z10, z11, z12, z13, z14, z15⟩ := wy_cells hb
  clear z0 z1 z2 z3 z4 z5 z6 z7 z8 z10 z11 z13 z14 z15
  have y12 := blk_loose hb 12
  have hn : Wy (w.setCell ⟨b, 12, none⟩ (.int .u64 (t * 256 + 8 * lowI at_))) b m a at_ k user (t * 256 + 8 * lowI at_) lies bts host := blk_set hb 12 _
  have ho : Only (fun i => i = b) w (w.setCell ⟨b, 12, none⟩ (.int .u64 (t * 256 + 8 * lowI at_))) := (Only.refl (fun i => i = b) w).setCell rfl _
  go_enter Tryd.func49, Tryd.ntmps49
  go_wp2_with fail
  refine (frameof_c hU).mono ?_
  rintro e wy ⟨rfl, hwy⟩
  rw [hwy]
  clear hwy wy
  go_wp2_with fail
  refine (placein_c hV t0 (by omega)).mono ?_
  rintro e wy ⟨rfl, hwy⟩
  rw [hwy, hp]
  clear hwy wy
  go_wp2_with fail
  go_end0
  exact ⟨rfl, ho, hn⟩
set_option maxRecDepth 10000 in
set_option maxHeartbeats 2000000 in
theorem gosecond_tab {p q : Nat} {B : Nat → Int} (hT : Tab12 w) (hm : ProgAt w p q B) (hb : Wy w b (.pointer (some ⟨p, 0, none⟩)) a at_ k user place lies bts host) (hp : U place) :
    Calls Tryd.prog 50 #[.pointer (some ⟨b, 0, none⟩), .bool true] w fun e w' => e = .returned (.int .i64 (wrongI (gstS B a place 1 false).c)) ∧ Only (fun i => i = b) w w' ∧ Wy w' b (.pointer (some ⟨p, 0, none⟩)) a at_ k user place (gstS B a place 1 false).p bts (gstB (gstS B a place 1 false)) := by
  have hcc := (gst_bd hm.byte a place 1 false hp.1).2.2
  have hsec : SecAll w p a place 1 (gstS B a place 1 false) := ⟨fun w1 k1 => second_c (hT.kept k1) (hm.kept k1) a place 1 hp⟩
  generalize gstS B a place 1 false = g at *
  obtain ⟨gp, gb, gc⟩ := g
  simp only at hcc ⊢
  obtain ⟨z0, z1, z2, z3, z4, z5, z6, z7, z8, z9, z10, z11, z12, z13, z14, z15⟩ := wy_cells hb
  clear z0 z1 z2 z3 z4 z5 z6 z7 z8 z9 z11 z12 z13 z14 z15
  go_enter Tryd.func50, Tryd.ntmps50
  go_upto_region 5 with fail
  have kd : Kept w w.drew := (Only.refl _ w).drew
  have hbd := hb.kept kd
  clear z10
  refine wp_region_held_drew (S := fun w2 => ∃ x y, Wy w2 b (.pointer (some ⟨p, 0, none⟩)) a at_ k user place x bts y) (by kernel_rfl) ⟨_, _, hbd⟩ (fun hHeld => ?_)
  refine wpAnyH_take (i := 0) (v := ?_) rfl (by kernel_rfl) (by kernel_rfl) (by kernel_rfl) (fun _ _ _ h => h) (Or.inl ⟨by rfl, ?_⟩) hHeld ?_
  rotate_left
  · intro w2 hSw
    clear hSw
    go_simp
    all_goals rfl
  try simp only [Act.put, List.getElem_toArray, List.getElem_cons_zero, List.setIfInBounds_toArray, List.set_cons_zero, List.set_cons_succ]
  refine wpAnyH_take (i := 1) (v := ?_) rfl (by kernel_rfl) (by kernel_rfl) (by kernel_rfl) (fun _ _ _ h => h) (Or.inl ⟨by rfl, ?_⟩) hHeld ?_
  rotate_left
  · intro w2 hSw
    clear hSw
    go_simp
    all_goals rfl
  try simp only [Act.put, List.getElem_toArray, List.getElem_cons_zero, List.getElem_cons_succ, List.setIfInBounds_toArray, List.set_cons_zero, List.set_cons_succ]
  refine wpAnyH_take (i := 2) (v := ?_) rfl (by kernel_rfl) (by kernel_rfl) (by kernel_rfl) (fun _ _ _ h => h) (Or.inl ⟨by rfl, ?_⟩) hHeld ?_
  rotate_left
  · intro w2 hSw
    clear hSw
    go_simp
    all_goals rfl
  try simp only [Act.put, List.getElem_toArray, List.getElem_cons_zero, List.getElem_cons_succ, List.setIfInBounds_toArray, List.set_cons_zero, List.set_cons_succ]
  refine wpAnyH_take (i := 3) (v := ?_) rfl (by kernel_rfl) (by kernel_rfl) (by kernel_rfl) (fun _ _ _ h => h) (Or.inl ⟨by rfl, ?_⟩) hHeld ?_
  rotate_left
  · intro w2 hSw
    clear hSw
    go_simp
    all_goals rfl
  try simp only [Act.put, List.getElem_toArray, List.getElem_cons_zero, List.getElem_cons_succ, List.setIfInBounds_toArray, List.set_cons_zero, List.set_cons_succ]
  refine wpAnyH_take (i := 4) (v := ?_) rfl (by kernel_rfl) (by kernel_rfl) (by kernel_rfl) (fun _ _ _ h => h) (Or.inl ⟨by rfl, ?_⟩) hHeld ?_
  rotate_left
  · intro w2 hSw
    clear hSw
    go_simp
    all_goals rfl
  try simp only [Act.put, List.getElem_toArray, List.getElem_cons_zero, List.getElem_cons_succ, List.setIfInBounds_toArray, List.set_cons_zero, List.set_cons_succ]
  refine wpAnyH_take (i := 5) (v := ?_) rfl (by kernel_rfl) (by kernel_rfl) (by kernel_rfl) (fun _ _ _ h => h) (Or.inl ⟨by rfl, ?_⟩) hHeld ?_
  rotate_left
  · intro w2 hSw
    obtain ⟨_, _, hSw⟩ := hSw
    obtain ⟨z0, z1, z2, z3, z4, z5, z6, z7, z8, z9, z10, z11, z12, z13, z14, z15⟩ := wy_cells hSw
    clear hSw
    go_simp
    all_goals rfl
  try simp only [Act.put, List.getElem_toArray, List.getElem_cons_zero, List.getElem_cons_succ, List.setIfInBounds_toArray, List.set_cons_zero, List.set_cons_succ]
  refine wpAnyH_take (i := 6) (v := ?_) rfl (by kernel_rfl) (by kernel_rfl) (by kernel_rfl) (fun _ _ _ h => h) (Or.inl ⟨by rfl, ?_⟩) hHeld ?_
  rotate_left
  · intro w2 hSw
    clear hSw
    go_simp
    all_goals rfl
  try simp only [Act.put, List.getElem_toArray, List.getElem_cons_zero, List.getElem_cons_succ, List.setIfInBounds_toArray, List.set_cons_zero, List.set_cons_succ]
  refine wpAnyH_take (i := 7) (v := ?_) rfl (by kernel_rfl) (by kernel_rfl) (by kernel_rfl) (fun _ _ _ h => h) (Or.inl ⟨by rfl, ?_⟩) hHeld ?_
  rotate_left
  · intro w2 hSw
    clear hSw
    go_simp
    all_goals rfl
  try simp only [Act.put, List.getElem_toArray, List.getElem_cons_zero, List.getElem_cons_succ, List.setIfInBounds_toArray, List.set_cons_zero, List.set_cons_succ]
  refine wpAnyH_take (i := 8) (v := ?_) rfl (by kernel_rfl) (by kernel_rfl) (by kernel_rfl) (fun _ _ _ h => h) (Or.inl ⟨by rfl, ?_⟩) hHeld ?_
  rotate_left
  · intro w2 hSw
    clear hSw
    go_simp
    all_goals rfl
  try simp only [Act.put, List.getElem_toArray, List.getElem_cons_zero, List.getElem_cons_succ, List.setIfInBounds_toArray, List.set_cons_zero, List.set_cons_succ]
  refine wpAnyH_take (i := 9) (v := .agg (askA a)) rfl (by kernel_rfl) (by kernel_rfl) (by kernel_rfl) (fun _ _ _ h => h) (Or.inl ⟨by rfl, ?_⟩) hHeld ?_
  · intro w2 hSw
    obtain ⟨_, _, hSw⟩ := hSw
    exact exec_load rfl rfl (load_asking hSw)
  try simp only [Act.put, List.getElem_toArray, List.getElem_cons_zero, List.getElem_cons_succ, List.setIfInBounds_toArray, List.set_cons_zero, List.set_cons_succ]
  refine wpAnyH_take (i := 10) (v := ?_) rfl (by kernel_rfl) (by kernel_rfl) (by kernel_rfl) (fun _ _ _ h => h) (Or.inl ⟨by rfl, ?_⟩) hHeld ?_
  rotate_left
  · intro w2 hSw
    clear hSw
    go_simp
    all_goals rfl
  try simp only [Act.put, List.getElem_toArray, List.getElem_cons_zero, List.getElem_cons_succ, List.setIfInBounds_toArray, List.set_cons_zero, List.set_cons_succ]
  refine wpAnyH_take (i := 11) (v := ?_) rfl (by kernel_rfl) (by kernel_rfl) (by kernel_rfl) (fun _ _ _ h => h) (Or.inl ⟨by rfl, ?_⟩) hHeld ?_
  rotate_left
  · intro w2 hSw
    clear hSw
    go_simp
    all_goals rfl
  try simp only [Act.put, List.getElem_toArray, List.getElem_cons_zero, List.getElem_cons_succ, List.setIfInBounds_toArray, List.set_cons_zero, List.set_cons_succ]
  refine wpAnyH_take (i := 12) (v := ?_) rfl (by kernel_rfl) (by kernel_rfl) (by kernel_rfl) (fun _ _ _ h => h) (Or.inl ⟨by rfl, ?_⟩) hHeld ?_
  rotate_left
  · intro w2 hSw
    clear hSw
    go_simp
    all_goals rfl
  try simp only [Act.put, List.getElem_toArray, List.getElem_cons_zero, List.getElem_cons_succ, List.setIfInBounds_toArray, List.set_cons_zero, List.set_cons_succ]
  refine wpAnyH_take (i := 13) (v := ?_) rfl (by kernel_rfl) (by kernel_rfl) (by kernel_rfl) (fun _ _ _ h => h) (Or.inl ⟨by rfl, ?_⟩) hHeld ?_
  rotate_left
  · intro w2 hSw
    obtain ⟨_, _, hSw⟩ := hSw
    obtain ⟨z0, z1, z2, z3, z4, z5, z6, z7, z8, z9, z10, z11, z12, z13, z14, z15⟩ := wy_cells hSw
    clear hSw
    go_simp
    all_goals rfl
  try simp only [Act.put, List.getElem_toArray, List.getElem_cons_zero, List.getElem_cons_succ, List.setIfInBounds_toArray, List.set_cons_zero, List.set_cons_succ]
  refine wpAnyH_take (i := 14) (v := ?_) rfl (by kernel_rfl) (by kernel_rfl) (by kernel_rfl) (fun _ _ _ h => h) (Or.inl ⟨by rfl, ?_⟩) hHeld ?_
  rotate_left
  · intro w2 hSw
    clear hSw
    go_simp
    all_goals rfl
  try simp only [Act.put, List.getElem_toArray, List.getElem_cons_zero, List.getElem_cons_succ, List.setIfInBounds_toArray, List.set_cons_zero, List.set_cons_succ]
  refine wpAnyH_ready (rs := [15]) (by kernel_rfl) (by simp) ?_
  refine AllReadyH.cons rfl (fun K hK => ?_) AllReadyH.nil
  go_simp
  refine (hsec.a _ kd).mono ?_
  rintro e wn ⟨rfl, k1⟩
  have b1 := hbd.kept k1
  go_simp
  refine hK.out _ _ ⟨_, _, b1⟩ (fun hHeld => ?_)
  clear hK K
  try simp only [Act.put, List.setIfInBounds_toArray, List.set_cons_zero, List.set_cons_succ]
  refine wpAnyH_take (i := 16) (v := ?_) rfl (by kernel_rfl) (by kernel_rfl) (by kernel_rfl) (fun _ _ _ h => h) (Or.inl ⟨by rfl, ?_⟩) hHeld ?_
  rotate_left
  · intro w2 hSw
    clear hSw
    go_simp
    all_goals rfl
  try simp only [Act.put, List.getElem_toArray, List.getElem_cons_zero, List.getElem_cons_succ, List.setIfInBounds_toArray, List.set_cons_zero, List.set_cons_succ]
  refine wpAnyH_take (i := 17) (v := ?_) rfl (by kernel_rfl) (by kernel_rfl) (by kernel_rfl) (fun _ _ _ h => h) (Or.inl ⟨by rfl, ?_⟩) hHeld ?_
  rotate_left
  · intro w2 hSw
    clear hSw
    go_simp
    all_goals rfl
  try simp only [Act.put, List.getElem_toArray, List.getElem_cons_zero, List.getElem_cons_succ, List.setIfInBounds_toArray, List.set_cons_zero, List.set_cons_succ]
  refine wpAnyH_take (i := 18) (v := ?_) rfl (by kernel_rfl) (by kernel_rfl) (by kernel_rfl) (fun _ _ _ h => h) (Or.inl ⟨by rfl, ?_⟩) hHeld ?_
  rotate_left
  · intro w2 hSw
    clear hSw
    go_simp
    all_goals rfl
  try simp only [Act.put, List.getElem_toArray, List.getElem_cons_zero, List.getElem_cons_succ, List.setIfInBounds_toArray, List.set_cons_zero, List.set_cons_succ]
  refine wpAnyH_take (i := 19) (v := ?_) rfl (by kernel_rfl) (by kernel_rfl) (by kernel_rfl) (fun _ _ _ h => h) (Or.inl ⟨by rfl, ?_⟩) hHeld ?_
  rotate_left
  · intro w2 hSw
    clear hSw
    go_simp
    all_goals rfl
  try simp only [Act.put, List.getElem_toArray, List.getElem_cons_zero, List.getElem_cons_succ, List.setIfInBounds_toArray, List.set_cons_zero, List.set_cons_succ]
  refine wpAnyH_take (i := 20) (v := ?_) rfl (by kernel_rfl) (by kernel_rfl) (by kernel_rfl) (fun _ _ _ h => h) (Or.inl ⟨by rfl, ?_⟩) hHeld ?_
  rotate_left
  · intro w2 hSw
    clear hSw
    go_simp
    all_goals rfl
  try simp only [Act.put, List.getElem_toArray, List.getElem_cons_zero, List.getElem_cons_succ, List.setIfInBounds_toArray, List.set_cons_zero, List.set_cons_succ]
  refine wpAnyH_take (i := 21) (v := ?_) rfl (by kernel_rfl) (by kernel_rfl) (by kernel_rfl) (fun _ _ _ h => h) (Or.inl ⟨by rfl, ?_⟩) hHeld ?_
  rotate_left
  · intro w2 hSw
    clear hSw
    go_simp
    all_goals rfl
  try simp only [Act.put, List.getElem_toArray, List.getElem_cons_zero, List.getElem_cons_succ, List.setIfInBounds_toArray, List.set_cons_zero, List.set_cons_succ]
  refine wpAnyH_ready (rs := [22]) (by kernel_rfl) (by simp) ?_
  refine AllReadyH.cons rfl (fun K hK => ?_) AllReadyH.nil
  have zc : _ = some _ := Blk.cell b1 13
  have yc := blk_loose b1 13
  go_simp
  have b2 := blk_set b1 13 (.int .u64 gp)
  clear zc yc
  refine hK.out _ _ ⟨_, _, b2⟩ (fun hHeld => ?_)
  clear hK K
  try simp only [Act.put, List.setIfInBounds_toArray, List.set_cons_zero, List.set_cons_succ]
  refine wpAnyH_take (i := 23) (v := ?_) rfl (by kernel_rfl) (by kernel_rfl) (by kernel_rfl) (fun _ _ _ h => h) (Or.inl ⟨by rfl, ?_⟩) hHeld ?_
  rotate_left
  · intro w2 hSw
    clear hSw
    go_simp
    all_goals rfl
  try simp only [Act.put, List.getElem_toArray, List.getElem_cons_zero, List.getElem_cons_succ, List.setIfInBounds_toArray, List.set_cons_zero, List.set_cons_succ]
  refine wpAnyH_take (i := 24) (v := ?_) rfl (by kernel_rfl) (by kernel_rfl) (by kernel_rfl) (fun _ _ _ h => h) (Or.inl ⟨by rfl, ?_⟩) hHeld ?_
  rotate_left
  · intro w2 hSw
    clear hSw
    go_simp
    all_goals rfl
  try simp only [Act.put, List.getElem_toArray, List.getElem_cons_zero, List.getElem_cons_succ, List.setIfInBounds_toArray, List.set_cons_zero, List.set_cons_succ]
  refine wpAnyH_ready (rs := [25]) (by kernel_rfl) (by simp) ?_
  refine AllReadyH.cons rfl (fun K hK => ?_) AllReadyH.nil
  have zc : _ = some _ := Blk.cell b2 15
  have yc := blk_loose b2 15
  go_simp
  have b3 := blk_set b2 15 (.int .i64 (gstB ⟨gp, gb, gc⟩))
  clear zc yc
  refine hK.out _ _ ⟨_, _, b3⟩ (fun hHeld => ?_)
  clear hK K
  try simp only [Act.put, List.setIfInBounds_toArray, List.set_cons_zero, List.set_cons_succ]
  refine wpAnyH_take (i := 26) (v := ?_) rfl (by kernel_rfl) (by kernel_rfl) (by kernel_rfl) (fun _ _ _ h => h) (Or.inl ⟨by rfl, ?_⟩) hHeld ?_
  rotate_left
  · intro w2 hSw
    clear hSw
    go_simp
    all_goals rfl
  try simp only [Act.put, List.getElem_toArray, List.getElem_cons_zero, List.getElem_cons_succ, List.setIfInBounds_toArray, List.set_cons_zero, List.set_cons_succ]
  refine wpAnyH_done (by kernel_rfl) ?_ _
  have kx : Only (fun i => i = b) w wn := (kd.then k1).mono fun _ f => f.elim
  have ox : Only (fun i => i = b) w ((wn.setCell ⟨b, 13, none⟩ (.int .u64 gp)).setCell ⟨b, 15, none⟩ (.int .i64 (gstB ⟨gp, gb, gc⟩))) := (kx.setCell rfl _).setCell rfl _
  have b4 : Wy _ b (.pointer (some ⟨p, 0, none⟩)) a at_ k user place gp bts (gstB ⟨gp, gb, gc⟩) := b3
  clear b3 b2 b1 hbd hHeld kx
  rcases hcc with rfl | rfl | rfl
  all_goals
    go_wp2
    go_ret
    exact ⟨rfl, ox, b4⟩
set_option maxRecDepth 10000 in
set_option maxHeartbeats 2000000 in
theorem gosecond_end {p q : Nat} {B : Nat → Int} (hT : Tab12 w) (hm : ProgAt w p q B) (hb : Wy w b (.pointer (some ⟨p, 0, none⟩)) a at_ k user place lies bts host) (hp : U place) :
    Calls Tryd.prog 50 #[.pointer (some ⟨b, 0, none⟩), .bool false] w fun e w' => e = .returned (.int .i64 (wrongI (gstS B a place k false).c)) ∧ Only (fun i => i = b) w w' ∧ Wy w' b (.pointer (some ⟨p, 0, none⟩)) a at_ k user place (gstS B a place k false).p bts (gstB (gstS B a place k false)) := by
  have hcc := (gst_bd hm.byte a place k false hp.1).2.2
  have hsec : SecAll w p a place k (gstS B a place k false) := ⟨fun w1 k1 => second_c (hT.kept k1) (hm.kept k1) a place k hp⟩
  generalize gstS B a place k false = g at *
  obtain ⟨gp, gb, gc⟩ := g
  simp only at hcc ⊢
  obtain ⟨z0, z1, z2, z3, z4, z5, z6, z7, z8, z9, z10, z11, z12, z13, z14, z15⟩ := wy_cells hb
  clear z0 z1 z2 z3 z4 z5 z6 z7 z8 z9 z11 z12 z13 z14 z15
  go_enter Tryd.func50, Tryd.ntmps50
  go_upto_region 5 with fail
  have kd : Kept w w.drew := (Only.refl _ w).drew
  have hbd := hb.kept kd
  clear z10
  refine wp_region_held_drew (S := fun w2 => ∃ x y, Wy w2 b (.pointer (some ⟨p, 0, none⟩)) a at_ k user place x bts y) (by kernel_rfl) ⟨_, _, hbd⟩ (fun hHeld => ?_)
  refine wpAnyH_take (i := 0) (v := ?_) rfl (by kernel_rfl) (by kernel_rfl) (by kernel_rfl) (fun _ _ _ h => h) (Or.inl ⟨by rfl, ?_⟩) hHeld ?_
  rotate_left
  · intro w2 hSw
    clear hSw
    go_simp
    all_goals rfl
  try simp only [Act.put, List.getElem_toArray, List.getElem_cons_zero, List.setIfInBounds_toArray, List.set_cons_zero, List.set_cons_succ]
  refine wpAnyH_take (i := 1) (v := ?_) rfl (by kernel_rfl) (by kernel_rfl) (by kernel_rfl) (fun _ _ _ h => h) (Or.inl ⟨by rfl, ?_⟩) hHeld ?_
  rotate_left
  · intro w2 hSw
    clear hSw
    go_simp
    all_goals rfl
  try simp only [Act.put, List.getElem_toArray, List.getElem_cons_zero, List.getElem_cons_succ, List.setIfInBounds_toArray, List.set_cons_zero, List.set_cons_succ]
  refine wpAnyH_take (i := 2) (v := ?_) rfl (by kernel_rfl) (by kernel_rfl) (by kernel_rfl) (fun _ _ _ h => h) (Or.inl ⟨by rfl, ?_⟩) hHeld ?_
  rotate_left
  · intro w2 hSw
    clear hSw
    go_simp
    all_goals rfl
  try simp only [Act.put, List.getElem_toArray, List.getElem_cons_zero, List.getElem_cons_succ, List.setIfInBounds_toArray, List.set_cons_zero, List.set_cons_succ]
  refine wpAnyH_take (i := 3) (v := ?_) rfl (by kernel_rfl) (by kernel_rfl) (by kernel_rfl) (fun _ _ _ h => h) (Or.inl ⟨by rfl, ?_⟩) hHeld ?_
  rotate_left
  · intro w2 hSw
    clear hSw
    go_simp
    all_goals rfl
  try simp only [Act.put, List.getElem_toArray, List.getElem_cons_zero, List.getElem_cons_succ, List.setIfInBounds_toArray, List.set_cons_zero, List.set_cons_succ]
  refine wpAnyH_take (i := 4) (v := ?_) rfl (by kernel_rfl) (by kernel_rfl) (by kernel_rfl) (fun _ _ _ h => h) (Or.inl ⟨by rfl, ?_⟩) hHeld ?_
  rotate_left
  · intro w2 hSw
    clear hSw
    go_simp
    all_goals rfl
  try simp only [Act.put, List.getElem_toArray, List.getElem_cons_zero, List.getElem_cons_succ, List.setIfInBounds_toArray, List.set_cons_zero, List.set_cons_succ]
  refine wpAnyH_take (i := 5) (v := ?_) rfl (by kernel_rfl) (by kernel_rfl) (by kernel_rfl) (fun _ _ _ h => h) (Or.inl ⟨by rfl, ?_⟩) hHeld ?_
  rotate_left
  · intro w2 hSw
    obtain ⟨_, _, hSw⟩ := hSw
    obtain ⟨z0, z1, z2, z3, z4, z5, z6, z7, z8, z9, z10, z11, z12, z13, z14, z15⟩ := wy_cells hSw
    clear hSw
    go_simp
    all_goals rfl
  try simp only [Act.put, List.getElem_toArray, List.getElem_cons_zero, List.getElem_cons_succ, List.setIfInBounds_toArray, List.set_cons_zero, List.set_cons_succ]
  refine wpAnyH_take (i := 6) (v := ?_) rfl (by kernel_rfl) (by kernel_rfl) (by kernel_rfl) (fun _ _ _ h => h) (Or.inl ⟨by rfl, ?_⟩) hHeld ?_
  rotate_left
  · intro w2 hSw
    clear hSw
    go_simp
    all_goals rfl
  try simp only [Act.put, List.getElem_toArray, List.getElem_cons_zero, List.getElem_cons_succ, List.setIfInBounds_toArray, List.set_cons_zero, List.set_cons_succ]
  refine wpAnyH_take (i := 7) (v := ?_) rfl (by kernel_rfl) (by kernel_rfl) (by kernel_rfl) (fun _ _ _ h => h) (Or.inl ⟨by rfl, ?_⟩) hHeld ?_
  rotate_left
  · intro w2 hSw
    clear hSw
    go_simp
    all_goals rfl
  try simp only [Act.put, List.getElem_toArray, List.getElem_cons_zero, List.getElem_cons_succ, List.setIfInBounds_toArray, List.set_cons_zero, List.set_cons_succ]
  refine wpAnyH_take (i := 8) (v := ?_) rfl (by kernel_rfl) (by kernel_rfl) (by kernel_rfl) (fun _ _ _ h => h) (Or.inl ⟨by rfl, ?_⟩) hHeld ?_
  rotate_left
  · intro w2 hSw
    clear hSw
    go_simp
    all_goals rfl
  try simp only [Act.put, List.getElem_toArray, List.getElem_cons_zero, List.getElem_cons_succ, List.setIfInBounds_toArray, List.set_cons_zero, List.set_cons_succ]
  refine wpAnyH_take (i := 9) (v := .agg (askA a)) rfl (by kernel_rfl) (by kernel_rfl) (by kernel_rfl) (fun _ _ _ h => h) (Or.inl ⟨by rfl, ?_⟩) hHeld ?_
  · intro w2 hSw
    obtain ⟨_, _, hSw⟩ := hSw
    exact exec_load rfl rfl (load_asking hSw)
  try simp only [Act.put, List.getElem_toArray, List.getElem_cons_zero, List.getElem_cons_succ, List.setIfInBounds_toArray, List.set_cons_zero, List.set_cons_succ]
  refine wpAnyH_take (i := 10) (v := ?_) rfl (by kernel_rfl) (by kernel_rfl) (by kernel_rfl) (fun _ _ _ h => h) (Or.inl ⟨by rfl, ?_⟩) hHeld ?_
  rotate_left
  · intro w2 hSw
    clear hSw
    go_simp
    all_goals rfl
  try simp only [Act.put, List.getElem_toArray, List.getElem_cons_zero, List.getElem_cons_succ, List.setIfInBounds_toArray, List.set_cons_zero, List.set_cons_succ]
  refine wpAnyH_take (i := 11) (v := ?_) rfl (by kernel_rfl) (by kernel_rfl) (by kernel_rfl) (fun _ _ _ h => h) (Or.inl ⟨by rfl, ?_⟩) hHeld ?_
  rotate_left
  · intro w2 hSw
    clear hSw
    go_simp
    all_goals rfl
  try simp only [Act.put, List.getElem_toArray, List.getElem_cons_zero, List.getElem_cons_succ, List.setIfInBounds_toArray, List.set_cons_zero, List.set_cons_succ]
  refine wpAnyH_take (i := 12) (v := ?_) rfl (by kernel_rfl) (by kernel_rfl) (by kernel_rfl) (fun _ _ _ h => h) (Or.inl ⟨by rfl, ?_⟩) hHeld ?_
  rotate_left
  · intro w2 hSw
    clear hSw
    go_simp
    all_goals rfl
  try simp only [Act.put, List.getElem_toArray, List.getElem_cons_zero, List.getElem_cons_succ, List.setIfInBounds_toArray, List.set_cons_zero, List.set_cons_succ]
  refine wpAnyH_take (i := 13) (v := ?_) rfl (by kernel_rfl) (by kernel_rfl) (by kernel_rfl) (fun _ _ _ h => h) (Or.inl ⟨by rfl, ?_⟩) hHeld ?_
  rotate_left
  · intro w2 hSw
    obtain ⟨_, _, hSw⟩ := hSw
    obtain ⟨z0, z1, z2, z3, z4, z5, z6, z7, z8, z9, z10, z11, z12, z13, z14, z15⟩ := wy_cells hSw
    clear hSw
    go_simp
    all_goals rfl
  try simp only [Act.put, List.getElem_toArray, List.getElem_cons_zero, List.getElem_cons_succ, List.setIfInBounds_toArray, List.set_cons_zero, List.set_cons_succ]
  refine wpAnyH_take (i := 14) (v := ?_) rfl (by kernel_rfl) (by kernel_rfl) (by kernel_rfl) (fun _ _ _ h => h) (Or.inl ⟨by rfl, ?_⟩) hHeld ?_
  rotate_left
  · intro w2 hSw
    clear hSw
    go_simp
    all_goals rfl
  try simp only [Act.put, List.getElem_toArray, List.getElem_cons_zero, List.getElem_cons_succ, List.setIfInBounds_toArray, List.set_cons_zero, List.set_cons_succ]
  refine wpAnyH_ready (rs := [15]) (by kernel_rfl) (by simp) ?_
  refine AllReadyH.cons rfl (fun K hK => ?_) AllReadyH.nil
  go_simp
  refine (hsec.a _ kd).mono ?_
  rintro e wn ⟨rfl, k1⟩
  have b1 := hbd.kept k1
  go_simp
  refine hK.out _ _ ⟨_, _, b1⟩ (fun hHeld => ?_)
  clear hK K
  try simp only [Act.put, List.setIfInBounds_toArray, List.set_cons_zero, List.set_cons_succ]
  refine wpAnyH_take (i := 16) (v := ?_) rfl (by kernel_rfl) (by kernel_rfl) (by kernel_rfl) (fun _ _ _ h => h) (Or.inl ⟨by rfl, ?_⟩) hHeld ?_
  rotate_left
  · intro w2 hSw
    clear hSw
    go_simp
    all_goals rfl
  try simp only [Act.put, List.getElem_toArray, List.getElem_cons_zero, List.getElem_cons_succ, List.setIfInBounds_toArray, List.set_cons_zero, List.set_cons_succ]
  refine wpAnyH_take (i := 17) (v := ?_) rfl (by kernel_rfl) (by kernel_rfl) (by kernel_rfl) (fun _ _ _ h => h) (Or.inl ⟨by rfl, ?_⟩) hHeld ?_
  rotate_left
  · intro w2 hSw
    clear hSw
    go_simp
    all_goals rfl
  try simp only [Act.put, List.getElem_toArray, List.getElem_cons_zero, List.getElem_cons_succ, List.setIfInBounds_toArray, List.set_cons_zero, List.set_cons_succ]
  refine wpAnyH_take (i := 18) (v := ?_) rfl (by kernel_rfl) (by kernel_rfl) (by kernel_rfl) (fun _ _ _ h => h) (Or.inl ⟨by rfl, ?_⟩) hHeld ?_
  rotate_left
  · intro w2 hSw
    clear hSw
    go_simp
    all_goals rfl
  try simp only [Act.put, List.getElem_toArray, List.getElem_cons_zero, List.getElem_cons_succ, List.setIfInBounds_toArray, List.set_cons_zero, List.set_cons_succ]
  refine wpAnyH_take (i := 19) (v := ?_) rfl (by kernel_rfl) (by kernel_rfl) (by kernel_rfl) (fun _ _ _ h => h) (Or.inl ⟨by rfl, ?_⟩) hHeld ?_
  rotate_left
  · intro w2 hSw
    clear hSw
    go_simp
    all_goals rfl
  try simp only [Act.put, List.getElem_toArray, List.getElem_cons_zero, List.getElem_cons_succ, List.setIfInBounds_toArray, List.set_cons_zero, List.set_cons_succ]
  refine wpAnyH_take (i := 20) (v := ?_) rfl (by kernel_rfl) (by kernel_rfl) (by kernel_rfl) (fun _ _ _ h => h) (Or.inl ⟨by rfl, ?_⟩) hHeld ?_
  rotate_left
  · intro w2 hSw
    clear hSw
    go_simp
    all_goals rfl
  try simp only [Act.put, List.getElem_toArray, List.getElem_cons_zero, List.getElem_cons_succ, List.setIfInBounds_toArray, List.set_cons_zero, List.set_cons_succ]
  refine wpAnyH_take (i := 21) (v := ?_) rfl (by kernel_rfl) (by kernel_rfl) (by kernel_rfl) (fun _ _ _ h => h) (Or.inl ⟨by rfl, ?_⟩) hHeld ?_
  rotate_left
  · intro w2 hSw
    clear hSw
    go_simp
    all_goals rfl
  try simp only [Act.put, List.getElem_toArray, List.getElem_cons_zero, List.getElem_cons_succ, List.setIfInBounds_toArray, List.set_cons_zero, List.set_cons_succ]
  refine wpAnyH_ready (rs := [22]) (by kernel_rfl) (by simp) ?_
  refine AllReadyH.cons rfl (fun K hK => ?_) AllReadyH.nil
  have zc : _ = some _ := Blk.cell b1 13
  have yc := blk_loose b1 13
  go_simp
  have b2 := blk_set b1 13 (.int .u64 gp)
  clear zc yc
  refine hK.out _ _ ⟨_, _, b2⟩ (fun hHeld => ?_)
  clear hK K
  try simp only [Act.put, List.setIfInBounds_toArray, List.set_cons_zero, List.set_cons_succ]
  refine wpAnyH_take (i := 23) (v := ?_) rfl (by kernel_rfl) (by kernel_rfl) (by kernel_rfl) (fun _ _ _ h => h) (Or.inl ⟨by rfl, ?_⟩) hHeld ?_
  rotate_left
  · intro w2 hSw
    clear hSw
    go_simp
    all_goals rfl
  try simp only [Act.put, List.getElem_toArray, List.getElem_cons_zero, List.getElem_cons_succ, List.setIfInBounds_toArray, List.set_cons_zero, List.set_cons_succ]
  refine wpAnyH_take (i := 24) (v := ?_) rfl (by kernel_rfl) (by kernel_rfl) (by kernel_rfl) (fun _ _ _ h => h) (Or.inl ⟨by rfl, ?_⟩) hHeld ?_
  rotate_left
  · intro w2 hSw
    clear hSw
    go_simp
    all_goals rfl
  try simp only [Act.put, List.getElem_toArray, List.getElem_cons_zero, List.getElem_cons_succ, List.setIfInBounds_toArray, List.set_cons_zero, List.set_cons_succ]
  refine wpAnyH_ready (rs := [25]) (by kernel_rfl) (by simp) ?_
  refine AllReadyH.cons rfl (fun K hK => ?_) AllReadyH.nil
  have zc : _ = some _ := Blk.cell b2 15
  have yc := blk_loose b2 15
  go_simp
  have b3 := blk_set b2 15 (.int .i64 (gstB ⟨gp, gb, gc⟩))
  clear zc yc
  refine hK.out _ _ ⟨_, _, b3⟩ (fun hHeld => ?_)
  clear hK K
  try simp only [Act.put, List.setIfInBounds_toArray, List.set_cons_zero, List.set_cons_succ]
  refine wpAnyH_take (i := 26) (v := ?_) rfl (by kernel_rfl) (by kernel_rfl) (by kernel_rfl) (fun _ _ _ h => h) (Or.inl ⟨by rfl, ?_⟩) hHeld ?_
  rotate_left
  · intro w2 hSw
    clear hSw
    go_simp
    all_goals rfl
  try simp only [Act.put, List.getElem_toArray, List.getElem_cons_zero, List.getElem_cons_succ, List.setIfInBounds_toArray, List.set_cons_zero, List.set_cons_succ]
  refine wpAnyH_done (by kernel_rfl) ?_ _
  have kx : Only (fun i => i = b) w wn := (kd.then k1).mono fun _ f => f.elim
  have ox : Only (fun i => i = b) w ((wn.setCell ⟨b, 13, none⟩ (.int .u64 gp)).setCell ⟨b, 15, none⟩ (.int .i64 (gstB ⟨gp, gb, gc⟩))) := (kx.setCell rfl _).setCell rfl _
  have b4 : Wy _ b (.pointer (some ⟨p, 0, none⟩)) a at_ k user place gp bts (gstB ⟨gp, gb, gc⟩) := b3
  clear b3 b2 b1 hbd hHeld kx
  rcases hcc with rfl | rfl | rfl
  all_goals
    go_wp2
    go_ret
    exact ⟨rfl, ox, b4⟩
end
end Go.Proofs.YtpplclenokfpeaaDoor
