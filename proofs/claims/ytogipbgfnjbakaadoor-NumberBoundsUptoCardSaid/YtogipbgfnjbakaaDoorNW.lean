/-
  NW: the document's SamePattern of alike ones; answers.
-/
import Derived.Test.YtogipbgfnjbakaaDoorNV
set_option maxRecDepth 100000
namespace Go.Proofs.YtogipbgfnjbakaaDoor
open Go.RowKit
theorem sameI0_c (w : World) : Calls Tryd.prog 20 #[.slice none 0 0, .slice none 0 0] w fun e w' => e = .returned (.bool true) ∧ w = w' := by
  go_enter Tryd.func20, Tryd.ntmps20
  go_wp2
  go_loopw [5] (fun iv wr => iv = .int .i64 0 ∧ wr = w) (fun _ _ => 0)
  case atStart => exact ⟨rfl, rfl⟩
  case round =>
    obtain ⟨rfl, rfl⟩ := hrel
    go_wp2
    go_ret
    exact ⟨rfl, rfl⟩
set_option maxHeartbeats 4000000 in
theorem sameP_c (p : NF) (w : World) : Calls Tryd.prog 10 #[.agg (patN p), .agg (patN p)] w fun e w' => e = .returned (.bool true) ∧ Below w.heap.size w w' := by
  have HX := Lib.hid (GX2.new w (patN p) (patN p))
  have HF : Hid (∀ W, Calls Tryd.prog 12 #[.agg (patN p), .agg (patN p)] W fun e w' => e = .returned (.bool true) ∧ Below W.heap.size W w') := Lib.hid (fun W => sameF_c _ _ _ _ _ _ _ _ _ _ _ _ _ _ _ _ _ _ _ _ _ _ _ _ _ _ _ _ W)
  have hsz : (Tryd.prog.info? 24).map (·.size) = some (patN p).size := pat_size ..
  have HV : Hid ((patN p)[0]? = some (.slice none 0 0) ∧ (patN p)[1]? = some (.slice none 0 0) ∧ (patN p)[2]? = some (.bool false) ∧ (patN p)[3]? = some (.slice none 0 0) ∧ (patN p)[4]? = some (.slice none 0 0) ∧ (patN p)[17]? = some (.int .i64 0) ∧ (patN p)[18]? = some (.int .i32 0) ∧ (patN p)[19]? = some (.int .i64 0)) := Lib.hid ⟨rfl, rfl, rfl, rfl, rfl, rfl, rfl, rfl⟩
  generalize patN p = PV at *
  go_enter Tryd.func10, Tryd.ntmps10
  go_upto_region 1 with fail
  generalize (w.alloc (.cells PV 24)).alloc (.cells PV 24) = W at *
  generalize hg : w.heap.size = g at *
  have Hg := Lib.hid hg
  clear hg
  have hbx := HX.out.bx
  have hby := HX.out.by_
  go_wp2_with (first
    | (refine wpList_load_row rfl 24 _ rfl g rfl 24 PV (0, 0) _ hbx Tryd.underlying24 rfl hsz ?_)
    | (refine wpList_load_row rfl 24 _ rfl (g + 1) rfl 24 PV (0, 0) _ hby Tryd.underlying24 rfl hsz ?_)
    | (go_at_call 12; refine (HF.out _).mono ?_; rintro e w1 ⟨rfl, hb⟩; have HX := Lib.hid (HX.out.below hb); have c0 := (HX.out.bx.c 0).trans HV.out.1; have c1 := (HX.out.bx.c 1).trans HV.out.2.1; have c2 := (HX.out.bx.c 2).trans HV.out.2.2.1; have c3 := (HX.out.bx.c 3).trans HV.out.2.2.2.1; have c4 := (HX.out.bx.c 4).trans HV.out.2.2.2.2.1; have c17 := (HX.out.bx.c 17).trans HV.out.2.2.2.2.2.1; have c18 := (HX.out.bx.c 18).trans HV.out.2.2.2.2.2.2.1; have c19 := (HX.out.bx.c 19).trans HV.out.2.2.2.2.2.2.2; have d0 := (HX.out.by_.c 0).trans HV.out.1; have d1 := (HX.out.by_.c 1).trans HV.out.2.1; have d2 := (HX.out.by_.c 2).trans HV.out.2.2.1; have d3 := (HX.out.by_.c 3).trans HV.out.2.2.2.1; have d4 := (HX.out.by_.c 4).trans HV.out.2.2.2.2.1; have d17 := (HX.out.by_.c 17).trans HV.out.2.2.2.2.2.1; have d18 := (HX.out.by_.c 18).trans HV.out.2.2.2.2.2.2.1; have d19 := (HX.out.by_.c 19).trans HV.out.2.2.2.2.2.2.2; clear hb hbx hby)
    | (go_at_call 20; refine (sameI0_c _).mono ?_; rintro e w' ⟨rfl, rfl⟩)
    | fail)
  go_ret
  exact ⟨rfl, Hg.out ▸ HX.out.b⟩
section
variable {w w1 : World} {B a : Nat} {us vs : Array Value} {T : TypeId}
theorem st_below (hb : Below B w w1) (hB : B ≤ w1.heap.size) : Below B w ((w1.alloc (.cells patZ 24)).setRow w1.heap.size vs) := (hb.alloc hB _).setRow hB _
theorem st_new : BX ((w1.alloc (.cells patZ 24)).setRow w1.heap.size vs) w1.heap.size vs 24 := setRow_heap _ _ patZ _ _ _ (BX.new w1 patZ _)
theorem st_old (h : BX w1 a us T) : BX ((w1.alloc (.cells patZ 24)).setRow w1.heap.size vs) a us T := (setRow_other _ _ _ _ (Nat.ne_of_lt h.lt)).trans (h.alloc _)
end
/-- The chapter's example. -/
def ex1 : List Nat := [35, 44, 35, 35, 48, 46, 48, 48, 35]
def exP : NF := { minInt := 1, minFrac := 2, maxFrac := 3, prim := 3, sec := 3 }
theorem ex1_num : numZ ex1 = (exP, 0) := by decide
theorem ex2_num : numZ [48, 46] = ({}, 4) := by decide
theorem ex1_pr : prN exP 0 = ex1 := by decide
set_option maxHeartbeats 4000000 in
theorem answers15_c (w : World) (hM : Mw w) : Calls Tryd.prog 8 #[] w fun e w' => e = .returned (.bool true) ∧ Below w.heap.size w w' := by
  have P1 : Hid (∀ W, Mw W → Calls Tryd.prog 7 #[.string ⟨#[35, 44, 35, 35, 48, 46, 48, 48, 35]⟩] W fun e w' => e = .returned (.tuple #[.agg (patN exP), .int .i64 0]) ∧ Below W.heap.size W w') := Lib.hid (fun W h => by
    have := parse_c ⟨#[35, 44, 35, 35, 48, 46, 48, 48, 35]⟩ W h (by show 9 ≤ _; omega)
    rw [show bts ⟨#[35, 44, 35, 35, 48, 46, 48, 48, 35]⟩ = ex1 from rfl, ex1_num] at this
    exact this)
  have P2 : Hid (∀ W, Mw W → Calls Tryd.prog 7 #[.string ⟨#[48, 46]⟩] W fun e w' => e = .returned (.tuple #[.agg (patN {}), .int .i64 4]) ∧ Below W.heap.size W w') := Lib.hid (fun W h => by
    have := parse_c ⟨#[48, 46]⟩ W h (by show 2 ≤ _; omega)
    rw [show bts ⟨#[48, 46]⟩ = [48, 46] from rfl, ex2_num] at this
    exact this)
  have P3 : Hid (∀ W, Mw W → Calls Tryd.prog 9 #[.agg (patN exP), .int .i64 0] W fun e w' => e = .returned (.string ⟨#[35, 44, 35, 35, 48, 46, 48, 48, 35]⟩) ∧ Below W.heap.size W w') := Lib.hid (fun W h => by
    have := print_c (.slice none 0 0) (.slice none 0 0) (.bool false) (.slice none 0 0) (.slice none 0 0) (.int .i64 0) (.int .i32 0) (.int .i64 0) exP 0 W h (okN_of ex1_num) (by decide)
    rw [show ((0 : Int).toNat) = 0 from rfl, ex1_pr] at this
    exact this)
  have HV : Hid ((patN exP)[5]? = some (.int .i64 1) ∧ (patN exP)[7]? = some (.int .i64 2) ∧ (patN exP)[8]? = some (.int .i64 3) ∧ (patN exP)[11]? = some (.int .i64 3)) := Lib.hid ⟨rfl, rfl, rfl, rfl⟩
  have HM := Lib.hid hM
  have HB : Hid (Below w.heap.size w w) := Lib.hid (Below.refl _ _)
  clear hM
  go_enter Tryd.func8, Tryd.ntmps8
  go_upto_region 1 with fail
  go_upto_region 2 with (first
    | (go_at_call 7; refine (P1.out _ HM.out).mono ?_; rintro e w1 ⟨rfl, hb⟩; have HB := Lib.hid hb; clear hb)
    | (refine wpList_store_row rfl 24 _ _ rfl w1.heap.size (patN exP) rfl rfl 24 patZ (BX.new w1 patZ _) (pat_size ..) rfl (pat_cells _) ?_)
    | fail)
  have hbx : BX ((w1.alloc (.cells patZ 24)).setRow w1.heap.size (patN exP)) w1.heap.size (patN exP) 24 := st_new
  have HB : Hid (Below w.heap.size w ((w1.alloc (.cells patZ 24)).setRow w1.heap.size (patN exP))) := Lib.hid (st_below HB.out HB.out.size)
  change Code.wp _ _ _ _ ((w1.alloc (.cells patZ 24)).setRow w1.heap.size (patN exP))
  generalize (w1.alloc (.cells patZ 24)).setRow w1.heap.size (patN exP) = W1 at *
  generalize w1.heap.size = a at *
  go_upto_region 3 with (first
    | (go_at_call 7; refine (P2.out _ (HM.out.below HB.out)).mono ?_; rintro e w2 ⟨rfl, hb⟩; have HB := Lib.hid (HB.out.trans (hb.mono HB.out.size)); have hbx := hbx.below hb hbx.lt; clear hb)
    | (refine wpList_store_row rfl 24 _ _ rfl w2.heap.size (patN {}) rfl rfl 24 patZ (BX.new w2 patZ _) (pat_size ..) rfl (pat_cells _) ?_)
    | fail)
  have hbx : BX ((w2.alloc (.cells patZ 24)).setRow w2.heap.size (patN {})) a (patN exP) 24 := st_old hbx
  have HB : Hid (Below w.heap.size w ((w2.alloc (.cells patZ 24)).setRow w2.heap.size (patN {}))) := Lib.hid (st_below HB.out HB.out.size)
  change Code.wp _ _ _ _ ((w2.alloc (.cells patZ 24)).setRow w2.heap.size (patN {}))
  generalize (w2.alloc (.cells patZ 24)).setRow w2.heap.size (patN {}) = W2 at *
  have c5 := (hbx.c 5).trans HV.out.1
  have c7 := (hbx.c 7).trans HV.out.2.1
  have c8 := (hbx.c 8).trans HV.out.2.2.1
  have c11 := (hbx.c 11).trans HV.out.2.2.2
  have hsz : (Tryd.prog.info? 24).map (·.size) = some (patN exP).size := pat_size ..
  generalize patN exP = PV at *
  go_wp2_with (first
    | (refine wpList_load_row_w rfl 24 _ rfl a rfl 24 PV (0, 0) _ hbx Tryd.underlying24 rfl hsz ?_)
    | (go_at_call 9; refine (P3.out _ (HM.out.below HB.out)).mono ?_; rintro e w3 ⟨rfl, hb⟩; have HB := Lib.hid (HB.out.trans (hb.mono HB.out.size)); clear hb)
    | fail)
  go_ret
  exact ⟨rfl, HB.out⟩
end Go.Proofs.YtogipbgfnjbakaaDoor
