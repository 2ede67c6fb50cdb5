/-
  PX: answers of layer 16.
-/
import Derived.Test.YtbjelkejifgnfaaGreatDoorPW
import Derived.Test.YtbjelkejifgnfaaGreatDoorPB
set_option maxRecDepth 100000
namespace Go.Proofs.YtbjelkejifgnfaaGreatDoor
open Go.RowKit
def ex16 : List Nat := [42, 120, 35, 44, 35, 35, 48, 46, 48, 48, 37, 59, 40, 35, 41]
def ex16T : List Tok := [(42, false, 0), (120, false, 1), (35, false, 2), (44, false, 3), (35, false, 4), (35, false, 5), (48, false, 6), (46, false, 7), (48, false, 8), (48, false, 9), (37, false, 10), (59, false, 11), (40, false, 12), (35, false, 13), (41, false, 14)]
def ex16P : Pt := { pre := [], suf := [(4, 0)], neg := true, npre := [(1, 40)], nsuf := [(1, 41)], num := { minInt := 1, minFrac := 2, maxFrac := 2, prim := 3, sec := 3 }, at_ := 1, pad := 120, width := 9 }
theorem ex16_toks : toks ex16 = (ex16T, 0, 0) := by
  have h := toks_right (cs := ex16) (by decide) (by decide) (by decide)
  rw [show encs ex16 = ex16 by decide, show (scn ex16 0 (-1)).1 = ex16T by decide] at h
  exact h
theorem ex16_comp : compZ ex16 = (ex16P, 0, 0) := by
  unfold compZ
  rw [ex16_toks]
  rfl
theorem ex97_comp : compZ [97] = ({}, 4, 0) := by
  have h := toks_right (cs := [97]) (by decide) (by decide) (by decide)
  rw [show encs [97] = [97] by decide, show (scn [97] 0 (-1)).1 = [(97, false, 0)] by decide] at h
  unfold compZ
  rw [h]
  rfl
theorem pt_ok {w : World} {lo : Nat} {PV : Array Value} {p : Pt} (h : PtM w lo PV p) : (Tryz.prog.info? 25).map (·.size) = some PV.size ∧ patZ.size = PV.size ∧ (PV.all (·.oneCell')) = true ∧ Aff w PV p.pre p.suf p.npre p.nsuf ∧
    ∃ A1 c1 A3 c3, PV[1]? = some (.slice A1 p.suf.length c1) ∧ PV[2]? = some (.bool p.neg) ∧ PV[3]? = some (.slice A3 p.npre.length c3) ∧ PV[17]? = some (.int .i64 p.at_) ∧ PV[18]? = some (.int .i32 p.pad) ∧ PV[19]? = some (.int .i64 ((p.width : Nat) : Int)) := by
  obtain ⟨A0, n0, c0, A1, n1, c1, A3, n3, c3, A4, n4, c4, rfl, h0, h1, h3, h4⟩ := h
  refine ⟨pat_size .., rfl, patV_cells4 _ _ _ _ _ _ _ _ _ _ _ _ _ _ _ _ _, ⟨pat_size .., ⟨_, _, _, rfl, h0.its, h0.cp.1⟩, ⟨_, _, _, rfl, h1.its, h1.cp.1⟩, ⟨_, _, _, rfl, h3.its, h3.cp.1⟩, ⟨_, _, _, rfl, h4.its, h4.cp.1⟩⟩, A1, c1, A3, c3, ?_, rfl, ?_, rfl, rfl, rfl⟩
  · rw [h1.num]; rfl
  · rw [h3.num]; rfl
theorem cmpA_c (w : World) (hM : Mw w) : Calls Tryz.prog 10 #[.string ⟨#[42, 120, 35, 44, 35, 35, 48, 46, 48, 48, 37, 59, 40, 35, 41]⟩] w fun e w' => ∃ PV, e = .returned (.tuple #[.agg PV, .agg #[.int .i64 0, .int .i64 0]]) ∧ Hid (PtM w' w.heap.size PV ex16P) ∧ Hid (Below w.heap.size w w') := by
  refine (compile_c _ w (by show 15 ≤ _; omega) hM).mono ?_
  rw [show bts ⟨#[42, 120, 35, 44, 35, 35, 48, 46, 48, 48, 37, 59, 40, 35, 41]⟩ = ex16 from rfl, ex16_comp]
  rintro e w' ⟨PV, rfl, -, h, hb⟩
  exact ⟨PV, rfl, Lib.hid (h.out rfl), hb⟩
theorem cmpB_c (w : World) (hM : Mw w) : Calls Tryz.prog 10 #[.string ⟨#[97]⟩] w fun e w' => e = .returned (.tuple #[.agg patZ, .agg #[.int .i64 4, .int .i64 0]]) ∧ Hid (Below w.heap.size w w') := by
  refine (compile_c _ w (by show 1 ≤ _; omega) hM).mono ?_
  rw [show bts ⟨#[97]⟩ = [97] from rfl, ex97_comp]
  rintro e w' ⟨PV, rfl, h, -, hb⟩
  obtain rfl : PV = patZ := h.out (by decide)
  exact ⟨rfl, hb⟩
theorem BX.drop {w w' : World} {a : Nat} {vs : Array Value} {T : TypeId} (h : BX w a vs T) {B : Nat} (hb : Below B w w') (hB : a < B) : BX w' a vs T := h.below hb hB
set_option maxHeartbeats 4000000 in
theorem answers16_c (w : World) (hM : Mw w) : Calls Tryz.prog 9 #[] w fun e w' => e = .returned (.bool true) ∧ Below w.heap.size w w' := by
  have HM := Lib.hid hM
  clear hM
  go_enter Tryz.func9, Tryz.ntmps9
  go_upto_region 2 with (first
    | (go_at_call 10; refine (cmpA_c _ HM.out).mono ?_; rintro e w1 ⟨PV, rfl, hpt, hb1⟩; obtain ⟨hsz, h20, hce, haf, A1, d1, A3, d3, k1, k2, k3, k17, k18, k19⟩ := pt_ok hpt.out)
    | (refine wpList_store_row rfl 25 _ _ rfl w1.heap.size PV rfl rfl 25 patZ ((BX.new w1 patZ 25).alloc _) hsz h20 hce ?_; have hF2 := (st2 w1 PV 0 0).1)
    | (refine wpList_store_row rfl 28 _ _ rfl (w1.heap.size + 1) #[.int .i64 0, .int .i64 0] rfl rfl 28 _ hF2 (flt_size _ _) rfl (flt_cells _ _) ?_)
    | fail)
  change Code.wp _ _ _ _ ((((w1.alloc (.cells patZ 25)).alloc (.cells #[.int .i64 0, .int .i64 0] 28)).setRow w1.heap.size PV).setRow (w1.heap.size + 1) #[.int .i64 0, .int .i64 0])
  obtain ⟨-, hbl, hbx, hfb, hsz9⟩ := st2 w1 PV 0 0
  have HAF := Lib.hid (haf.below hbl)
  have HB2 := Lib.hid (hb1.out.trans (hbl.mono hb1.out.size))
  have HX2 := Lib.hid hbx
  have HF2 := Lib.hid hfb
  have HK := Lib.hid (And.intro k1 (And.intro k2 (And.intro k3 (And.intro k17 (And.intro k18 k19)))))
  clear hF2 haf hbl hbx hfb hpt hb1 k1 k2 k3 k17 k18 k19
  generalize (((w1.alloc (.cells patZ 25)).alloc (.cells #[.int .i64 0, .int .i64 0] 28)).setRow w1.heap.size PV).setRow (w1.heap.size + 1) #[.int .i64 0, .int .i64 0] = W2 at *
  generalize w1.heap.size = a at *
  go_upto_region 3 with (first
    | (go_at_call 10; refine (cmpB_c _ (HM.out.below HB2.out)).mono ?_; rintro e w3 ⟨rfl, hb3⟩)
    | (refine wpList_store_row rfl 25 _ _ rfl w3.heap.size patZ rfl rfl 25 patZ ((BX.new w3 patZ 25).alloc _) (pat_size _ _ _ _ _ {} _ _ _) rfl (pat_cells {}) ?_; have hF3 := (st2 w3 patZ 4 0).1)
    | (refine wpList_store_row rfl 28 _ _ rfl (w3.heap.size + 1) #[.int .i64 4, .int .i64 0] rfl rfl 28 _ hF3 (flt_size _ _) rfl (flt_cells _ _) ?_)
    | fail)
  change Code.wp _ _ _ _ ((((w3.alloc (.cells patZ 25)).alloc (.cells #[.int .i64 0, .int .i64 0] 28)).setRow w3.heap.size patZ).setRow (w3.heap.size + 1) #[.int .i64 4, .int .i64 0])
  obtain ⟨-, hbl, hbx, hfb, hsz3⟩ := st2 w3 patZ 4 0
  have hb23 := hb3.out.trans (hbl.mono hb3.out.size)
  have HAF3 := Lib.hid (HAF.out.below hb23)
  have HB3 := Lib.hid (HB2.out.trans (hb23.mono HB2.out.size))
  have hbx3 := HX2.out.below hb23 HX2.out.lt
  have hfa := HF2.out.below hb23 HF2.out.lt
  clear hF3 hbl hbx hb3 hb23
  generalize (((w3.alloc (.cells patZ 25)).alloc (.cells #[.int .i64 0, .int .i64 0] 28)).setRow w3.heap.size patZ).setRow (w3.heap.size + 1) #[.int .i64 4, .int .i64 0] = W3 at *
  generalize w3.heap.size = b at *
  have y0 : W3.cell? ⟨a + 1, 0, none⟩ = some (.int .i64 0) := hfa.c0
  have c17 : W3.cell? ⟨a, 17, none⟩ = some (.int .i64 1) := (hbx3.c 17).trans HK.out.2.2.2.1
  have c18 : W3.cell? ⟨a, 18, none⟩ = some (.int .i32 120) := (hbx3.c 18).trans HK.out.2.2.2.2.1
  have c19 : W3.cell? ⟨a, 19, none⟩ = some (.int .i64 9) := (hbx3.c 19).trans HK.out.2.2.2.2.2
  have c1 : W3.cell? ⟨a, 1, none⟩ = some (.slice A1 1 d1) := (hbx3.c 1).trans HK.out.1
  have c2 : W3.cell? ⟨a, 2, none⟩ = some (.bool true) := (hbx3.c 2).trans HK.out.2.1
  have c3 : W3.cell? ⟨a, 3, none⟩ = some (.slice A3 1 d3) := (hbx3.c 3).trans HK.out.2.2.1
  have HFB := Lib.hid hfb
  have HMU : Hid (Calls Tryz.prog 17 #[.agg PV] W3 fun x w' => x = .returned (.int .i64 2) ∧ Below W3.heap.size W3 w') := Lib.hid (by
    have := pmult_c PV _ _ _ _ W3 HAF3.out
    rwa [show mulK ex16P.pre ex16P.suf ex16P.npre ex16P.nsuf = 2 by decide] at this)
  go_wp2_with (first
    | (refine wpList_load_row_w rfl 25 _ rfl a rfl 25 PV (0, 0) _ hbx3 Tryz.underlying25 rfl hsz ?_)
    | (go_at_call 17; refine HMU.out.mono ?_; rintro e w4 ⟨rfl, hb4⟩; have hfd := HFB.out.below hb4 HFB.out.lt; have y4 : w4.cell? ⟨b + 1, 0, none⟩ = some (.int .i64 4) := hfd.c0)
    | fail)
  go_ret
  exact ⟨rfl, HB3.out.trans (hb4.mono HB3.out.size)⟩
end Go.Proofs.YtbjelkejifgnfaaGreatDoor
