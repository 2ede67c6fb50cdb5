/-
  NumberFields, walked.
-/
import Derived.Test.YtogipbgfnjbakaaDoorNZ
set_option maxRecDepth 100000
namespace Go.Proofs.YtogipbgfnjbakaaDoor
open Go.RowKit
set_option maxHeartbeats 4000000 in
theorem walk_numberFields (x0 x1 x2 x3 x4 y0 y1 y2 : Value) (a5 a6 a7 a8 a9 a10 a11 a12 a15 : Int) (a13 : ByteArray) (a14 a16 : Bool) (w : World) (hs : a13.size ≤ 281474976710656) (hM : Mw w) : Calls Tryd.prog 4 #[.agg (fV x0 x1 x2 x3 x4 y0 y1 y2 a5 a6 a7 a8 a9 a10 a11 a12 a15 a13 a14 a16)] w fun e w' => e = .returned (.bool true) ∧ Below w.heap.size w w' := by
  have HFd := Lib.hid (fun W => fields_c x0 x1 x2 x3 x4 y0 y1 y2 a5 a6 a7 a8 a9 a10 a11 a12 a15 a13 a14 a16 W hs)
  have HF : Hid (∀ W, Calls Tryd.prog 12 #[.agg (fV x0 x1 x2 x3 x4 y0 y1 y2 a5 a6 a7 a8 a9 a10 a11 a12 a15 a13 a14 a16), .agg (fU a5 a6 a7 a8 a9 a10 a11 a12 a15 a13 a14 a16)] W fun e w' => e = .returned (.bool true) ∧ Below W.heap.size W w') := Lib.hid (fun W => sameF_c _ _ _ _ _ _ _ _ _ _ _ _ _ _ _ _ _ _ _ _ _ _ _ _ _ _ _ _ W)
  have HA := Lib.hid (fun W (h : Mw W) => answers15_c W h)
  have HM := Lib.hid hM
  have hszV : (Tryd.prog.info? 24).map (·.size) = some (fV x0 x1 x2 x3 x4 y0 y1 y2 a5 a6 a7 a8 a9 a10 a11 a12 a15 a13 a14 a16).size := psizeV
  have hszU : (Tryd.prog.info? 24).map (·.size) = some (fU a5 a6 a7 a8 a9 a10 a11 a12 a15 a13 a14 a16).size := psizeU
  have hcU : (fU a5 a6 a7 a8 a9 a10 a11 a12 a15 a13 a14 a16).all (·.oneCell') = true := pcellsU
  have hzs : patZ.size = (fU a5 a6 a7 a8 a9 a10 a11 a12 a15 a13 a14 a16).size := rfl
  have HV : Hid ((fU a5 a6 a7 a8 a9 a10 a11 a12 a15 a13 a14 a16)[0]? = some (.slice none 0 0) ∧ (fU a5 a6 a7 a8 a9 a10 a11 a12 a15 a13 a14 a16)[1]? = some (.slice none 0 0) ∧ (fU a5 a6 a7 a8 a9 a10 a11 a12 a15 a13 a14 a16)[2]? = some (.bool false) ∧ (fU a5 a6 a7 a8 a9 a10 a11 a12 a15 a13 a14 a16)[3]? = some (.slice none 0 0) ∧ (fU a5 a6 a7 a8 a9 a10 a11 a12 a15 a13 a14 a16)[4]? = some (.slice none 0 0) ∧ (fU a5 a6 a7 a8 a9 a10 a11 a12 a15 a13 a14 a16)[17]? = some (.int .i64 0) ∧ (fU a5 a6 a7 a8 a9 a10 a11 a12 a15 a13 a14 a16)[18]? = some (.int .i32 0) ∧ (fU a5 a6 a7 a8 a9 a10 a11 a12 a15 a13 a14 a16)[19]? = some (.int .i64 0)) := Lib.hid ⟨rfl, rfl, rfl, rfl, rfl, rfl, rfl, rfl⟩
  generalize fV x0 x1 x2 x3 x4 y0 y1 y2 a5 a6 a7 a8 a9 a10 a11 a12 a15 a13 a14 a16 = VA at *
  generalize fU a5 a6 a7 a8 a9 a10 a11 a12 a15 a13 a14 a16 = UA at *
  clear hM hs
  have hbx : BX (w.alloc (.cells VA 24)) w.heap.size VA 24 := BX.new _ _ _
  have HB : Hid (Below w.heap.size w (w.alloc (.cells VA 24))) := Lib.hid (below_new w _)
  go_enter Tryd.func4, Tryd.ntmps4
  go_upto_region 1 with fail
  change Code.wp _ _ _ _ (w.alloc (.cells VA 24))
  generalize w.alloc (.cells VA 24) = W at *
  go_upto_region 2 with (first
    | (refine wpList_load_row rfl 24 _ rfl w.heap.size rfl 24 VA (0, 0) _ hbx Tryd.underlying24 rfl hszV ?_)
    | (go_at_call 11; refine (HFd.out _).mono ?_; rintro e w1 ⟨rfl, hb⟩; have HB := Lib.hid (HB.out.trans (hb.mono HB.out.size)); have hbx := hbx.below hb hbx.lt; clear hb)
    | (refine wpList_store_row rfl 24 _ _ rfl w1.heap.size UA rfl rfl 24 patZ (BX.new w1 patZ _) hszU hzs hcU ?_)
    | fail)
  have hby : BX ((w1.alloc (.cells patZ 24)).setRow w1.heap.size UA) w1.heap.size UA 24 := st_new
  have hbx : BX ((w1.alloc (.cells patZ 24)).setRow w1.heap.size UA) w.heap.size VA 24 := st_old hbx
  have HB : Hid (Below w.heap.size w ((w1.alloc (.cells patZ 24)).setRow w1.heap.size UA)) := Lib.hid (st_below HB.out HB.out.size)
  change Code.wp _ _ _ _ ((w1.alloc (.cells patZ 24)).setRow w1.heap.size UA)
  generalize (w1.alloc (.cells patZ 24)).setRow w1.heap.size UA = W1 at *
  generalize w1.heap.size = b at *
  go_wp2_with (first
    | go_skip
    | (go_at_call 8; refine (HA.out _ (HM.out.below (HB.out))).mono ?_; rintro e w6 ⟨rfl, hb⟩; have HB := Lib.hid (HB.out.trans (hb.mono HB.out.size)); have hbx := hbx.below hb hbx.lt; have hby := hby.below hb hby.lt; clear hb)
    | (refine wpList_load_row_g 24 (Operand.tmp 1) rfl w.heap.size rfl 24 VA (0, 0) _ hbx Tryd.underlying24 rfl hszV rfl rfl rfl rfl ?_)
    | (refine wpList_load_row_g 24 (Operand.tmp 3) rfl b rfl 24 UA (0, 0) _ hby Tryd.underlying24 rfl hszU rfl rfl rfl rfl ?_)
    | (go_at_call 12; refine (HF.out _).mono ?_; rintro e w7 ⟨rfl, hb⟩; have HB := Lib.hid (HB.out.trans (hb.mono HB.out.size)); have hbx := hbx.below hb hbx.lt; have hby := hby.below hb hby.lt; have c0 := (hby.c 0).trans HV.out.1; have c1 := (hby.c 1).trans HV.out.2.1; have c2 := (hby.c 2).trans HV.out.2.2.1; have c3 := (hby.c 3).trans HV.out.2.2.2.1; have c4 := (hby.c 4).trans HV.out.2.2.2.2.1; have c17 := (hby.c 17).trans HV.out.2.2.2.2.2.1; have c18 := (hby.c 18).trans HV.out.2.2.2.2.2.2.1; have c19 := (hby.c 19).trans HV.out.2.2.2.2.2.2.2; clear hb)
    | fail)
  go_ret
  exact ⟨rfl, HB.out⟩
end Go.Proofs.YtogipbgfnjbakaaDoor
