/-
  MulOwn: the walk.
-/
import Derived.Test.YthddeiadcecggaaGood02
import Derived.Test.YthddeiadcecggaaAns02
import Derived.Test.YthddeiadcecggaaRefG
import Derived.Deep.RegionWith
import Derived.Deep.DeepCutAuto
namespace Go.Proofs.Ythddeiadcecggaa
open Go.RowKit
/-- What the products' line leaves: two rows of the call's own. -/
def MulOwnMid (W4 : World) (s7 s8 : Value) (wx : World) : Prop :=
  ∃ As ms cs At mt ct h5 zs ts, s7 = .slice As ms cs ∧ s8 = .slice At mt ct ∧ W4.heap.size ≤ h5 ∧ (∀ k, (Value.slice As ms cs).ownBlock = some k → k < h5) ∧ wx.ownsRow W4.heap.size 30 1 (.slice As ms cs) ms (u32s zs) ∧
    wx.ownsRow h5 30 1 (.slice At mt ct) mt (u32s ts) ∧ Below W4.heap.size W4 wx ∧ ms ≤ 1000000000 ∧ mt ≤ 1000000000
theorem mulOwn_mid {W4 W5 W6 : World} {As At : Option Addr} {ms cs mt ct : Nat} {zs ts : List Nat} (ho5 : OwnS W5 W4.drew.heap.size As ms cs zs) (hb5 : Below W4.drew.heap.size W4.drew W5) (ho6 : OwnS W6 W5.heap.size At mt ct ts) (hb6 : Below W5.heap.size W5 W6) :
    MulOwnMid W4 (.slice As ms cs) (.slice At mt ct) W6 := by
  have hb5' : Below W4.heap.size W4 W5 := (Below.refl _ _).drew.trans hb5
  exact ⟨As, ms, cs, At, mt, ct, W5.heap.size, zs, ts, rfl, rfl, hb5'.size, fun k hk => (ho5.1.lt k hk).2, own_kept ho5.1 hb6 rfl, ho6.1, hb5'.trans (hb6.mono hb5'.size), ho5.2.1, ho6.2.1⟩
set_option maxHeartbeats 2000000 in
set_option maxRecDepth 100000 in
theorem walk_mulOwn (a0 : Option Addr) (n0 c0 : Nat) (x0 : List Nat) (a1 : Option Addr) (n1 c1 : Nat) (x1 : List Nat) (w : World) (h0 : Limbs w a0 n0 x0) (h1 : Limbs w a1 n1 x1) :
    Calls Try.prog 6 #[.slice a0 n0 c0, .slice a1 n1 c1] w fun e w' => e = .returned (.bool true) ∧ Below w.heap.size w w' := by
  have B := Lib.hid (Below.refl w.heap.size w)
  have H0 := Lib.hid h0
  clear h0
  have H1 := Lib.hid h1
  clear h1
  have CG := good02_2_c a0 a1 n0 c0 n1 c1 x0 x1 w H0.out H1.out
  try simp only [World.size_alloc] at CG
  have hbA := (Below.refl (w).heap.size w).alloc (Nat.le_refl _) (.cells #[.slice a0 n0 c0, .slice a1 n1 c1] 22)
  replace H0 := Lib.hid (H0.out.below hbA)
  replace H1 := Lib.hid (H1.out.below hbA)
  replace B := Lib.hid (B.out.trans (hbA.mono B.out.size))
  clear hbA
  rcases hg : (Arg.mk a0 n0 c0 x0).fineL 30 && (Arg.mk a1 n1 c1 x1).fineL 30 with _ | _
  · rw [hg] at CG
    have HCG := Lib.hid CG
    clear CG hg
    go_enter Try.func6, Try.ntmps6
    go_wp2_with fail
    refine (HCG.out).mono ?_
    rintro e W ⟨rfl, rfl⟩
    clear HCG
    go_wp2_with fail
    refine (answers02_c _).mono ?_
    rintro e w1 ⟨rfl, hb⟩
    replace H0 := Lib.hid (H0.out.below hb)
    replace H1 := Lib.hid (H1.out.below hb)
    replace B := Lib.hid (B.out.trans (hb.mono B.out.size))
    clear hb 
    go_wp2
    go_ret
    exact ⟨rfl, B.out⟩
  · rw [hg] at CG
    have HCG := Lib.hid CG
    clear CG
    try simp only [Bool.and_eq_true] at hg
    have F0 := Arg.fineL_true hg.1
    simp only at F0
    have hn0 := F0.1
    have G0 := Lib.hid F0.2
    have V0 := Lib.hid (limbs_lt F0.2 (m := 30) (by rw [H0.out.len]; exact hn0))
    have F1 := Arg.fineL_true hg.2
    simp only at F1
    have hn1 := F1.1
    have G1 := Lib.hid F1.2
    have V1 := Lib.hid (limbs_lt F1.2 (m := 30) (by rw [H1.out.len]; exact hn1))
    clear hg F0 F1
    go_enter Try.func6, Try.ntmps6
    go_wp2_with fail
    refine (HCG.out).mono ?_
    rintro e W ⟨rfl, rfl⟩
    clear HCG
    generalize hW : (w.alloc (.cells #[.slice a0 n0 c0, .slice a1 n1 c1] 22)) = W at B H0 H1
    have hWsz := Lib.hid B.out.size
    clear hW
    have A0 := Lib.hid (H0.out.below ((Below.refl W.heap.size W).alloc (Nat.le_refl _) (.cells #[] 30)))
    go_wp2_with (at_builtin; go_must (refine wpList_app_limbs rfl (.tmp 17) (.tmp 18) _ rfl Try.underlying22 W.heap.size _ 0 [] rfl (own_empty W _) a0 n0 c0 x0 rfl A0.out (by omega) ((Below.refl W.heap.size W).alloc (Nat.le_refl _) _) (by simp) ?_))
    intro v1 W1 ho1 hb1
    have hs1 := hb1.out.size
    go_wp2_with (at_builtin; go_must (refine wpList_app_limbs rfl (.tmp 19) (.tmp 20) _ rfl Try.underlying22 W.heap.size v1 n0 x0 rfl (ho1.out.alloc _) _ 1 1 [7] rfl (limbs_new W1 7 (by omega) 7 rfl) (by omega) (hb1.out.alloc hs1 _) (by simp; omega) ?_))
    intro v2 W2 ho2 hb2
    obtain ⟨gx, cx, rfl, hgx0, hgx, hcx, hcm⟩ := own_pos ho2.out (by omega)
    replace B := Lib.hid (B.out.trans (hb2.out.mono B.out.size))
    replace H1 := Lib.hid (H1.out.below hb2.out)
    replace H0 := Lib.hid (H0.out.below hb2.out)
    have hs2 := hb2.out.size
    clear ho1 hb1 hb2 A0
    have A1 := Lib.hid (H1.out.below ((Below.refl W2.heap.size W2).alloc (Nat.le_refl _) (.cells #[] 30)))
    go_wp2_with (at_builtin; go_must (refine wpList_app_limbs rfl (.tmp 22) (.tmp 23) _ rfl Try.underlying22 W2.heap.size _ 0 [] rfl (own_empty W2 _) a1 n1 c1 x1 rfl A1.out (by omega) ((Below.refl W2.heap.size W2).alloc (Nat.le_refl _) _) (by simp) ?_))
    intro v3 W3 ho3 hb3
    have hs3 := hb3.out.size
    go_wp2_with (at_builtin; go_must (refine wpList_app_limbs rfl (.tmp 24) (.tmp 25) _ rfl Try.underlying22 W2.heap.size v3 n1 x1 rfl (ho3.out.alloc _) _ 1 1 [8] rfl (limbs_new W3 8 (by omega) 8 rfl) (by omega) (hb3.out.alloc hs3 _) (by simp; omega) ?_))
    intro v4 W4 ho4 hb4
    obtain ⟨gy, cy, rfl, hgy0, hgy, hcy, hcm'⟩ := own_pos ho4.out (by omega)
    have OX := Lib.hid (own_kept ho2.out hb4.out rfl)
    have OY := Lib.hid ho4.out
    replace B := Lib.hid (B.out.trans (hb4.out.mono B.out.size))
    replace H1 := Lib.hid (H1.out.below hb4.out)
    replace H0 := Lib.hid (H0.out.below hb4.out)
    have hs4 := hb4.out.size
    clear ho2 ho3 hb3 hb4 A1 ho4
    have LX := Lib.hid (own_prefix OX.out H0.out.len (by omega) H0.out.2.2)
    have LY := Lib.hid (own_prefix OY.out H1.out.len (by omega) H1.out.2.2)
    have MC := Lib.hid (mul_c (some ⟨gx, 0, none⟩) (some ⟨gy, 0, none⟩) n0 cx n1 cy x0 x1 W4.drew LX.out LY.out G0.out G1.out (by omega) (by omega))
    have SC := Lib.hid (show ∀ W5, Below W4.drew.heap.size W4.drew W5 → Calls Try.prog 16 #[.slice (some ⟨gx, 0, none⟩) n0 cx, .int .u32 3, .int .u32 1] W5 fun e w' => ∃ A' m c', e = .returned (.slice A' m c') ∧ OwnS w' W5.heap.size A' m c' (digs 1000000000 (val 1000000000 x0 * 3 + 1)) ∧ Below W5.heap.size W5 w' from
      fun W5 hb => small_c _ n0 cx x0 3 1 W5 (own_prefix (own_kept (w := W4.drew) OX.out hb rfl) H0.out.len (by omega) H0.out.2.2) G0.out (by omega) (by omega) (by omega))
    clear LX LY
    go_wp2_with fail
    have q1 : n0 ≤ cx := by omega
    have q2 : n1 ≤ cy := by omega
    have q3 : (n0 : Int) ≤ (cx : Int) := by omega
    have q4 : (n1 : Int) ≤ (cy : Int) := by omega
    go_cut [7, 8] (MulOwnMid W4)
    case first =>
      go_region_with (first
        | (go_at_call 11; refine MC.out.mono ?_; rintro e W5 ⟨As, ms, cs, rfl, ho5, hb5⟩)
        | (go_at_call 16; refine (SC.out _ hb5).mono ?_; rintro e W6 ⟨At, mt, ct, rfl, ho6, hb6⟩))
      all_goals
        go_wp2_with fail
        go_meet
        exact mulOwn_mid ho5 hb5 ho6 hb6
    case rest =>
      obtain ⟨As, ms, cs, At, mt, ct, h5, zs0, ts0, rfl, rfl, hh5, hsb0, hs0, ht0, hbc0, hms, hmt⟩ := hcut
      have hsb := Lib.hid hsb0
      have HS0 := Lib.hid hs0
      have HT0 := Lib.hid ht0
      have HBC := Lib.hid hbc0
      have hws : W.heap.size ≤ W4.heap.size := by omega
      clear hsb0 hs0 ht0 hbc0
      go_wp2_with fail
      obtain ⟨W7, hW7⟩ : ∃ W7 : World, W7 = wc := ⟨_, rfl⟩
      rw [← hW7] at HS0 HT0 HBC
      subst hW7
      go_loopw [9] (fun i wr => ∃ (k : Nat) (zs : List Nat), k ≤ ms ∧ i = .int .i64 (k : Int) ∧ wr.ownsRow W4.heap.size 30 1 (.slice As ms cs) ms (u32s zs) ∧ wr.ownsRow h5 30 1 (.slice At mt ct) mt (u32s ts0) ∧ Below W4.heap.size W4 wr) (fun i _ => ms - (intOf i).toNat)
      case atStart => exact ⟨0, zs0, by omega, rfl, HS0.out, HT0.out, HBC.out⟩
      case round =>
        obtain ⟨k, zs, hk, rfl, hz0, hr0, hbw0⟩ := hrel
        have HZ := Lib.hid hz0
        have HR := Lib.hid hr0
        have HBW := Lib.hid hbw0
        clear hz0 hr0 hbw0
        by_cases hlt : k < ms
        · obtain ⟨gs, vo, hA, hgs, hcell, hfr, hob⟩ := own_round HZ.out hlt
          subst hA
          have hg5 := hsb.out gs hob
          go_wp2
          go_roundw
          case rel =>
            refine ⟨k + 1, zs.set k 5, by omega, by go_num, ?_, ownsRow_setCell_below HR.out hg5 _, HBW.out.setCell hgs _⟩
            rw [u32s_set5]
            exact (HZ.out.stored k _).1
          case measure => simp [intOf]; omega
        · go_wp2_with fail
          have HR0 := Lib.hid HR.out
          have HBW0 := Lib.hid HBW.out
          clear HZ HR HBW
          obtain ⟨W8, hW8⟩ : ∃ W8 : World, W8 = wr := ⟨_, rfl⟩
          rw [← hW8] at HR0 HBW0
          subst hW8
          go_loopw [10] (fun i wr => ∃ (k : Nat) (zs : List Nat), k ≤ mt ∧ i = .int .i64 (k : Int) ∧ wr.ownsRow h5 30 1 (.slice At mt ct) mt (u32s zs) ∧ Below W4.heap.size W4 wr) (fun i _ => mt - (intOf i).toNat)
          case atStart => exact ⟨0, ts0, by omega, rfl, HR0.out, HBW0.out⟩
          case round =>
            obtain ⟨j, zs, hj, rfl, hz0, hbw0⟩ := hrel
            have HZ := Lib.hid hz0
            have HBW := Lib.hid hbw0
            clear hz0 hbw0
            by_cases hlt2 : j < mt
            · obtain ⟨gs, vo, hA, hgs, hcell, hfr, hob⟩ := own_round HZ.out hlt2
              subst hA
              go_wp2
              go_roundw
              case rel =>
                refine ⟨j + 1, zs.set j 5, by omega, by go_num, ?_, HBW.out.setCell (Nat.le_trans hh5 hgs) _⟩
                rw [u32s_set5]
                exact (HZ.out.stored j _).1
              case measure => simp [intOf]; omega
            · replace OX := Lib.hid (own_kept OX.out HBW.out rfl)
              replace OY := Lib.hid (own_kept OY.out HBW.out rfl)
              replace B := Lib.hid (B.out.trans (HBW.out.mono B.out.size))
              replace H0 := Lib.hid (H0.out.below HBW.out)
              replace H1 := Lib.hid (H1.out.below HBW.out)
              clear HZ HBW HR0 HBW0 HS0 HT0 HBC MC SC
              go_wp2_with fail
              refine (answers02_c _).mono ?_
              rintro e W9 ⟨rfl, hb⟩
              replace B := Lib.hid (B.out.trans (hb.mono B.out.size))
              replace OX := Lib.hid (own_kept OX.out hb rfl)
              replace OY := Lib.hid (own_kept OY.out hb rfl)
              replace H0 := Lib.hid (H0.out.below hb)
              replace H1 := Lib.hid (H1.out.below hb)
              clear hb
              go_wp2_with fail
              refine (same_c (some ⟨gx, 0, none⟩) a0 n0 cx n0 c0 x0 x0 W9 (own_prefix OX.out H0.out.len (by omega) H0.out.2.2) H0.out).mono ?_
              rw [decide_eq_true rfl]
              rintro e W10 ⟨rfl, hb⟩
              replace B := Lib.hid (B.out.trans (hb.mono B.out.size))
              replace OX := Lib.hid (own_kept OX.out hb rfl)
              replace OY := Lib.hid (own_kept OY.out hb rfl)
              replace H0 := Lib.hid (H0.out.below hb)
              replace H1 := Lib.hid (H1.out.below hb)
              clear hb
              go_wp2_with fail
              refine (same_c (some ⟨gy, 0, none⟩) a1 n1 cy n1 c1 x1 x1 W10 (own_prefix OY.out H1.out.len (by omega) H1.out.2.2) H1.out).mono ?_
              rw [decide_eq_true rfl]
              rintro e W11 ⟨rfl, hb⟩
              replace B := Lib.hid (B.out.trans (hb.mono B.out.size))
              replace OX := Lib.hid (own_kept OX.out hb rfl)
              replace OY := Lib.hid (own_kept OY.out hb rfl)
              clear hb
              have hc7 := own_cell_behind OX.out 0 7 rfl
              have hc8 := own_cell_behind OY.out 0 8 rfl
              rw [H0.out.len, Nat.add_zero] at hc7
              rw [H1.out.len, Nat.add_zero] at hc8
              have hc7' : W11.cell? ⟨gx, n0, none⟩ = some (.int .u32 7) := hc7
              have hc8' : W11.cell? ⟨gy, n1, none⟩ = some (.int .u32 8) := hc8
              clear hc7 hc8
              go_wp2
              go_ret
              exact ⟨rfl, B.out⟩
end Go.Proofs.Ythddeiadcecggaa
