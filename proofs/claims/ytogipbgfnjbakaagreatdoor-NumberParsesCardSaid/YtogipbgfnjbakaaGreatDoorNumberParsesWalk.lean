/-
  NumberParses, walked.
-/
import Derived.Test.YtogipbgfnjbakaaGreatDoorNZ
import Derived.Test.YtogipbgfnjbakaaGreatDoorNX
set_option maxRecDepth 100000
namespace Go.Proofs.YtogipbgfnjbakaaGreatDoor
open Go.RowKit
set_option maxHeartbeats 16000000 in
theorem walk_numberParses (s : ByteArray) (w : World) (hs : s.size ≤ 9223372036854775807) (hM : Mw w) :
    Calls Tryz.prog 3 #[.string s] w fun e w' => e = .returned (.bool true) ∧ Below w.heap.size w w' := by
  have HA := Lib.hid (fun W (h : Mw W) => answers15_c W h)
  by_cases h4 : 400 < s.size
  · have g4 : decide ((400 : Int) < (s.size : Int)) = true := decide_eq_true (by omega)
    have HM := Lib.hid hM
    clear hM
    go_enter Tryz.func3, Tryz.ntmps3
    go_wp2_with (first
      | go_skip
      | (go_at_call 5; refine (HA.out _ HM.out).mono ?_; rintro e w2 ⟨rfl, hb⟩)
      | fail)
    go_ret
    exact ⟨rfl, hb⟩
  · have g4 : decide ((400 : Int) < (s.size : Int)) = false := decide_eq_false (by omega)
    have P1 := Lib.hid (fun W (h : Mw W) => parse_c s W h (by omega))
    have P2 := Lib.hid (fun W => refNum_c s W (by omega))
    generalize (numZ (bts s)).1 = p at *
    generalize (numZ (bts s)).2 = e at *
    have HSP := Lib.hid (fun W => sameP_c p W)
    have hsz : (Tryz.prog.info? 25).map (·.size) = some (patN p).size := pat_size ..
    have HM := Lib.hid hM
    clear hM
    go_enter Tryz.func3, Tryz.ntmps3
    go_upto_region 4 with (first
      | (go_at_call 6; refine (P1.out _ HM.out).mono ?_; rintro e w1 ⟨rfl, hb⟩; have HB := Lib.hid hb; clear hb)
      | (refine wpList_store_row rfl 25 _ _ rfl w1.heap.size (patN p) rfl rfl 25 patZ (BX.new w1 patZ _) (pat_size ..) rfl (pat_cells _) ?_)
      | fail)
    have hbx : BX ((w1.alloc (.cells patZ 25)).setRow w1.heap.size (patN p)) w1.heap.size (patN p) 25 := st_new
    have HB : Hid (Below w.heap.size w ((w1.alloc (.cells patZ 25)).setRow w1.heap.size (patN p))) := Lib.hid (st_below HB.out HB.out.size)
    change Code.wp _ _ _ _ ((w1.alloc (.cells patZ 25)).setRow w1.heap.size (patN p))
    generalize (w1.alloc (.cells patZ 25)).setRow w1.heap.size (patN p) = W1 at *
    generalize w1.heap.size = a at *
    clear P1
    go_upto_region 5 with (first
      | (go_at_call 7; refine (P2.out _).mono ?_; rintro e w2 ⟨rfl, hb⟩; have HB := Lib.hid (HB.out.trans (hb.mono HB.out.size)); have hbx := hbx.below hb hbx.lt; clear hb)
      | (refine wpList_store_row rfl 25 _ _ rfl w2.heap.size (patN p) rfl rfl 25 patZ (BX.new w2 patZ _) (pat_size ..) rfl (pat_cells _) ?_)
      | fail)
    have hby : BX ((w2.alloc (.cells patZ 25)).setRow w2.heap.size (patN p)) w2.heap.size (patN p) 25 := st_new
    have hbx : BX ((w2.alloc (.cells patZ 25)).setRow w2.heap.size (patN p)) a (patN p) 25 := st_old hbx
    have HB : Hid (Below w.heap.size w ((w2.alloc (.cells patZ 25)).setRow w2.heap.size (patN p))) := Lib.hid (st_below HB.out HB.out.size)
    change Code.wp _ _ _ _ ((w2.alloc (.cells patZ 25)).setRow w2.heap.size (patN p))
    generalize (w2.alloc (.cells patZ 25)).setRow w2.heap.size (patN p) = W2 at *
    generalize w2.heap.size = b at *
    clear P2
    generalize patN p = PV at *
    go_wp2_with (first
      | go_skip
      | (go_at_call 5; refine (HA.out _ (HM.out.below HB.out)).mono ?_; rintro e w6 ⟨rfl, hb⟩; have HB := Lib.hid (HB.out.trans (hb.mono HB.out.size)); have hbx := hbx.below hb hbx.lt; have hby := hby.below hb hby.lt; clear hb)
      | (refine wpList_load_row_g 25 (Operand.tmp 3) rfl a rfl 25 PV (0, 0) _ hbx Tryz.underlying25 rfl hsz rfl rfl rfl rfl ?_)
      | (refine wpList_load_row_g 25 (Operand.tmp 5) rfl b rfl 25 PV (0, 0) _ hby Tryz.underlying25 rfl hsz rfl rfl rfl rfl ?_)
      | (go_at_call 8; refine (HSP.out _).mono ?_; rintro e w7 ⟨rfl, hb⟩; have HB := Lib.hid (HB.out.trans (hb.mono HB.out.size)); clear hb)
      | fail)
    go_ret
    exact ⟨rfl, HB.out⟩
end Go.Proofs.YtogipbgfnjbakaaGreatDoor
