/-
  PatternFaults, walked.
-/
import Derived.Test.YtbjelkejifgnfaaGreatDoorPX
set_option maxRecDepth 100000
namespace Go.Proofs.YtbjelkejifgnfaaGreatDoor
open Go.RowKit
theorem pt_ok2 {w : World} {lo : Nat} {PV : Array Value} {p : Pt} {e : Int} (h0 : e ≠ 0 → PV = patZ) (h1 : e = 0 → PtM w lo PV p) :
    (Tryz.prog.info? 25).map (·.size) = some PV.size ∧ patZ.size = PV.size ∧ (PV.all (·.oneCell')) = true := by
  by_cases he : e = 0
  · obtain ⟨a, b, c, -⟩ := pt_ok (h1 he)
    exact ⟨a, b, c⟩
  · rw [h0 he]
    exact ⟨pat_size _ _ _ _ _ {} _ _ _, rfl, pat_cells {}⟩
set_option maxHeartbeats 4000000 in
theorem walk_patternFaults (s : ByteArray) (w : World) (_hs : s.size ≤ 9223372036854775807) (hM : Mw w) : Calls Tryz.prog 4 #[.string s] w fun e w' => e = .returned (.bool true) ∧ Below w.heap.size w w' := by
  have HA := Lib.hid (fun W (h : Mw W) => answers16_c W h)
  by_cases hs : 1000 < s.size
  · have g1 : decide ((1000 : Int) < (s.size : Int)) = true := decide_eq_true (by omega)
    go_enter Tryz.func4, Tryz.ntmps4
    go_wp2_with (first
      | (go_at_call 9; refine (HA.out _ hM).mono ?_; rintro e w1 ⟨rfl, hb⟩)
      | fail)
    go_ret
    exact ⟨rfl, hb⟩
  · have HC := Lib.hid (compile_c s w (by omega) hM)
    obtain ⟨f1, f2, f3, f4⟩ := compZ_fault (bts_lt s)
    rw [bts_length] at f4
    generalize compZ (bts s) = C at *
    obtain ⟨P, e, p⟩ := C
    dsimp only at *
    have HM := Lib.hid hM
    clear hM
    go_enter Tryz.func4, Tryz.ntmps4
    go_upto_region 4 with (first
      | (go_at_call 10; refine HC.out.mono ?_; rintro e w1 ⟨PV, rfl, h0, h1, hb1⟩; obtain ⟨hsz, h20, hce⟩ := pt_ok2 h0.out h1.out)
      | (refine wpList_store_row rfl 25 _ _ rfl w1.heap.size PV rfl rfl 25 patZ ((BX.new w1 patZ 25).alloc _) hsz h20 hce ?_; have hF2 := (st2 w1 PV 0 0).1)
      | (refine wpList_store_row rfl 28 _ _ rfl (w1.heap.size + 1) #[.int .i64 e, .int .i64 p] rfl rfl 28 _ hF2 (flt_size _ _) rfl (flt_cells _ _) ?_)
      | fail)
    change Code.wp _ _ _ _ ((((w1.alloc (.cells patZ 25)).alloc (.cells #[.int .i64 0, .int .i64 0] 28)).setRow w1.heap.size PV).setRow (w1.heap.size + 1) #[.int .i64 e, .int .i64 p])
    obtain ⟨-, hbl, hbx, hfb, hsz9⟩ := st2 w1 PV e p
    have HB2 := Lib.hid (hb1.out.trans (hbl.mono hb1.out.size))
    clear hF2 hbl hb1
    generalize (((w1.alloc (.cells patZ 25)).alloc (.cells #[.int .i64 0, .int .i64 0] 28)).setRow w1.heap.size PV).setRow (w1.heap.size + 1) #[.int .i64 e, .int .i64 p] = W2 at *
    generalize w1.heap.size = a at *
    have HFB := Lib.hid hfb
    have HBX := Lib.hid hbx
    have y0 : W2.cell? ⟨a + 1, 0, none⟩ = some (.int .i64 e) := hfb.c0
    clear hfb hbx HC
    by_cases he : e = 0
    · obtain rfl : p = 0 := f1 he
      subst he
      clear f1 f2 f3 f4 h0 h1 hsz h20 hce
      go_wp2_with (first
        | (go_at_call 9; refine (HA.out _ (HM.out.below HB2.out)).mono ?_; rintro e w3 ⟨rfl, hb3⟩; have hfd := HFB.out.below hb3 HFB.out.lt; have y1 : w3.cell? ⟨a + 1, 1, none⟩ = some (.int .i64 0) := hfd.c1)
        | fail)
      go_ret
      exact ⟨rfl, HB2.out.trans (hb3.mono HB2.out.size)⟩
    · obtain rfl : PV = patZ := h0.out he
      have gp : (e == 0) = false := by simpa using he
      have g3 : decide ((0 : Int) ≤ p) = true := decide_eq_true f3
      have g4 : decide (p ≤ (s.size : Int)) = true := decide_eq_true f4
      have HSP : Hid (∀ W, Calls Tryz.prog 12 #[.agg patZ, .agg patZ] W fun e w' => e = .returned (.bool true) ∧ Below W.heap.size W w') := Lib.hid (fun W => sameP_c {} W)
      clear he f1 f2 h0 h1
      go_wp2_with (first
        | (go_at_call 9; refine (HA.out _ (HM.out.below HB2.out)).mono ?_; rintro e w3 ⟨rfl, hb3⟩; have hfd := HFB.out.below hb3 HFB.out.lt; have y1 : w3.cell? ⟨a + 1, 1, none⟩ = some (.int .i64 p) := hfd.c1; have hbx3 := HBX.out.below hb3 HBX.out.lt)
        | (refine wpList_load_row_w rfl 25 _ rfl a rfl 25 patZ (0, 0) _ hbx3 Tryz.underlying25 rfl hsz ?_)
        | (go_at_call 12; refine (HSP.out _).mono ?_; rintro e w4 ⟨rfl, hb4⟩)
        | fail)
      go_ret
      exact ⟨rfl, HB2.out.trans ((hb3.trans (hb4.mono hb3.size)).mono HB2.out.size)⟩
end Go.Proofs.YtbjelkejifgnfaaGreatDoor
