/-
  What is looked up, filled: as the document's own calls answer: walked whole, for every argument.
-/
import Derived.Test.YtlfaklabghhdkaaRefTl
import Derived.Laws.ResultCell
import Derived.Deep.WholeRow
import Derived.Deep.RegionHeld3
namespace Go.Proofs.Ytlfaklabghhdkaa
open Go.RowKit
theorem results_blk_tmp {fn : Func} {p u : Tmp} {ty T : TypeId} (h : fn.results = #[.cell p ty, .tmp u]) (tmps : Array Value) (P : Program) (w : World) (b : Nat) (cs : Array Value) (hp : tmps.getD p undef = .pointer (some ⟨b, 0, none⟩)) (hb : Blk w b T cs) (d : TypeDesc)
    (hu : P.underlying ty = some d) (hd : d.isRow = true) (hi : (P.info? ty).map (·.size) = some cs.size) :
    (results fn tmps).run P w = .ok (.tuple #[.agg cs, tmps.getD u undef]) w := by
  rw [results_cell_tmp h, hp]
  have hl : (loadVar ty ⟨b, 0, none⟩).run P w = .ok (.agg cs) w := run_loadVar_mid w b 0 ty cs.toList d hb.range hu hd hi
  simp only [asAddr, Sem.run_pure, Result.andThen_ok, hl]
section
variable {w : World} {b : Nat} {T : Nat → EntM}
set_option maxRecDepth 10000 in
set_option maxHeartbeats 2000000 in
theorem rtlook_any (ht : TlAt w b T) (page : Int) (v : Bool) (asid vmid : Int) :
    Calls Try.prog 17 #[.pointer (some ⟨b, 0, none⟩), .int .i64 page, .bool v, .int .i64 asid, .int .i64 vmid] w fun e w' => e = .returned (.tuple #[.agg (entA (lookT T page v asid vmid)).toArray, .bool (isT T page v asid vmid)]) ∧ Kept w w' := by
  unfold lookT isT
  have hbd := find_cases (hitP T page v asid vmid) 16 0
  have hat : atT T page v asid vmid = findF (hitP T page v asid vmid) 16 0 := rfl
  rw [← hat] at hbd
  have hcall := fun (w' : World) (k : Kept w w') => rtat_any (ht.kept k) page v asid vmid
  have hk0 : Hid (∀ w' : World, Kept w w' → Calls Try.prog 21 #[.pointer (some ⟨b, 0, none⟩), .int .i64 page, .bool v, .int .i64 asid, .int .i64 vmid] w' fun e w'' => e = .returned (.int .i64 (atT T page v asid vmid)) ∧ Kept w' w'') := hcall
  clear hcall hat
  generalize atT T page v asid vmid = r at *
  rcases hbd with rfl | ⟨j, _, hj, _, rfl⟩
  · go_enter Try.func17, Try.ntmps17
    go_upto_region 1 with (refine wpList_alloc_go rfl 28 rfl (entA entNone).toArray ent_zero' ?_; intro eb wa na ka ma ea)
    go_wp2_with fail
    refine (hk0 wa ka).mono ?_
    rintro e w1 ⟨rfl, k1⟩
    go_wp2_with (first | (refine wpList_built rfl 28 _ rfl (entA entNone).toArray (by kernel_rfl) ?_) | (refine wpList_store_go rfl 28 _ _ rfl eb (entA entNone).toArray rfl rfl (ea.kept k1) (ent_size' _) ((ent_len _).trans (ent_len _).symm) (ent_ones' _) ?_; intro wb ob fb))
    refine bodyPost_ret (results_blk_tmp rfl _ _ _ eb _ rfl fb _ Try.underlying28 rfl (ent_size' _)) rfl ⟨rfl, (ka.then k1).new ob fun i hi => by omega⟩
  · have hj' : (j : Int) < 16 := by omega
    have hj0 : (0 : Int) ≤ (j : Int) := by omega
    have hnn : ¬ (j : Int) < 0 := by omega
    have hd : decide ((0 : Int) ≤ (j : Int)) = true := decide_eq_true hj0
    rw [if_neg hnn, hd, Int.toNat_natCast]
    clear hd
    go_enter Try.func17, Try.ntmps17
    go_upto_region 1 with (refine wpList_alloc_go rfl 28 rfl (entA entNone).toArray ent_zero' ?_; intro eb wa na ka ma ea)
    go_wp2_with fail
    refine (hk0 wa ka).mono ?_
    rintro e w1 ⟨rfl, k1⟩
    have hr := (ht.kept (ka.then k1)).at_ j (by omega)
    go_wp2_with (first | (refine wpList_load_mid rfl 28 _ rfl b (j * 9) rfl (entA (T j)) _ hr Try.underlying28 rfl (ent_size' _) ?_) | (refine wpList_store_go rfl 28 _ _ rfl eb (entA (T j)).toArray rfl rfl (ea.kept k1) (ent_size' _) ((ent_len _).trans (ent_len _).symm) (ent_ones' _) ?_; intro wb ob fb))
    refine bodyPost_ret (results_blk_tmp rfl _ _ _ eb _ rfl fb _ Try.underlying28 rfl (ent_size' _)) rfl ⟨rfl, (ka.then k1).new ob fun i hi => by omega⟩
end
end Go.Proofs.Ytlfaklabghhdkaa
