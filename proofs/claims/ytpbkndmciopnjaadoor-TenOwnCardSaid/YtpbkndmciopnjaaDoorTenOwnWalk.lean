/-
  TenOwn: the walk.
-/
import Derived.Test.YtpbkndmciopnjaaDoorTenAns
import Derived.Test.YtpbkndmciopnjaaDoorRefF
import Derived.Test.YtpbkndmciopnjaaDoorRefI
import Derived.Test.YtpbkndmciopnjaaDoorRefG
import Derived.Test.YtpbkndmciopnjaaDoorOurs
namespace Go.Proofs.YtpbkndmciopnjaaDoor
open Go.RowKit
set_option maxHeartbeats 2000000 in
set_option maxRecDepth 100000 in
theorem walk_tenOwn (a0 : Option Addr) (n0 c0 : Nat) (x0 : List Nat) (k1 : Nat) (w : World) (h0 : Limbs w a0 n0 x0) (h1 : k1 < 256) (hP : Pw w) :
    Calls Tryd.prog 7 #[.slice a0 n0 c0, .int .u8 (k1 : Int)] w fun e w' => e = .returned (.bool true) ∧ Below w.heap.size w w' := by
  have P := Lib.hid hP
  clear hP
  have B := Lib.hid (Below.refl w.heap.size w)
  have H0 := Lib.hid h0
  clear h0
  have CG := good04_c a0 n0 c0 x0 w H0.out
  rcases hg : (Arg.mk a0 n0 c0 x0).fineL 40 with _ | _
  · rw [hg] at CG
    have HCG := Lib.hid CG
    clear CG hg
    go_enter Tryd.func7, Tryd.ntmps7
    go_wp2_with fail
    refine (HCG.out).mono ?_
    rintro e W ⟨rfl, rfl⟩
    clear HCG
    go_wp2_with fail
    refine (answers04_c _ P.out).mono ?_
    rintro e w1 ⟨rfl, hb⟩
    replace P := Lib.hid (P.out.below hb)
    replace H0 := Lib.hid (H0.out.below hb)
    replace B := Lib.hid (B.out.trans (hb.mono B.out.size))
    clear hb 
    go_wp2
    go_ret
    exact ⟨rfl, B.out⟩
  · rw [hg] at CG
    have HCG := Lib.hid CG
    clear CG
    have F0 := Arg.fineL_true hg
    simp only at F0
    have hn0 := F0.1
    have G0 := Lib.hid F0.2
    have V0 := Lib.hid (limbs_lt F0.2 (m := 40) (by rw [H0.out.len]; exact hn0))
    clear hg F0
    go_enter Tryd.func7, Tryd.ntmps7
    go_wp2_with fail
    refine (HCG.out).mono ?_
    rintro e W ⟨rfl, rfl⟩
    clear HCG
    have hw := Lib.hid B.out.size
    generalize hW : w = W at H0 P
    have B0 := Lib.hid (Below.refl W.heap.size W)
    replace B := Lib.hid (show Below w.heap.size w W by rw [← hW]; exact B.out)
    have hwW := Lib.hid (show w.heap.size ≤ W.heap.size by rw [hW]; exact Nat.le_refl _)
    clear hw B0 hW
    have A0 := Lib.hid (H0.out.below ((Below.refl W.heap.size W).alloc (Nat.le_refl _) (.cells #[] 39)))
    go_wp2_with (at_builtin; go_must (refine wpList_app_limbs rfl (.tmp 16) (.tmp 17) _ rfl Tryd.underlying22 W.heap.size _ 0 [] rfl (own_empty W _) a0 n0 c0 x0 rfl A0.out (by omega) ((Below.refl W.heap.size W).alloc (Nat.le_refl _) _) (by simp) ?_))
    intro v1 W1 ho1 hb1
    have hs1 := hb1.out.size
    go_wp2_with (at_builtin; go_must (refine wpList_app_limbs rfl (.tmp 18) (.tmp 19) _ rfl Tryd.underlying22 W.heap.size v1 n0 x0 rfl (ho1.out.alloc _) _ 2 2 [7, 7] rfl (limbs_new2 W1 7 7 (by omega) (by omega) 7 7 rfl rfl) (by omega) (hb1.out.alloc hs1 _) (by simp; omega) ?_))
    intro v2 W2 ho2 hb2
    obtain ⟨gx, cx, rfl, hgx0, hgx, hcx, hcm⟩ := own_pos ho2.out (by omega)
    replace B := Lib.hid (B.out.trans (hb2.out.mono B.out.size))
    replace H0 := Lib.hid (H0.out.below hb2.out)
    replace P := Lib.hid (P.out.below hb2.out)
    have OX := Lib.hid ho2.out
    have H2 := H0
    have P2 := P
    clear ho1 hb1 hb2 A0 ho2
    have LX := Lib.hid (own_prefix OX.out H0.out.len (by omega) H0.out.2.2)
    have CS := Lib.hid (tenShift_c (some ⟨gx, 0, none⟩) n0 cx x0 (k1 : Int) k1 W2 LX.out G0.out (by omega) (by omega) (by omega) P.out)
    have q1 : n0 ≤ cx := by omega
    have q3 : (n0 : Int) ≤ (cx : Int) := by omega
    have q5 : (n0 : Int) ≤ (n0 : Int) + 2 := by omega
    clear LX
    go_wp2_with fail
    refine CS.out.mono ?_
    rintro e W3 ⟨As, ms, cs, rfl, ho, hb⟩
    have HS0 := Lib.hid (ho.ours (B := W2.heap.size) (Nat.le_refl _))
    have hmsb := ho.2.1
    have HBC := Lib.hid hb
    replace OX := Lib.hid (own_kept OX.out hb rfl)
    replace H0 := Lib.hid (H0.out.below hb)
    replace P := Lib.hid (P.out.below hb)
    clear ho hb CS
    have LX := Lib.hid (own_prefix OX.out H0.out.len (by omega) H0.out.2.2)
    have CC := Lib.hid (tenCut_c (some ⟨gx, 0, none⟩) n0 cx x0 (k1 : Int) k1 W3 LX.out G0.out (by omega) (by omega) (by omega) (by omega) P.out)
    clear LX
    go_wp2_with fail
    refine CC.out.mono ?_
    rintro e W4 ⟨At, mt, ct, Au, mu, cu, rfl, ho, ho2, hb⟩
    have hsc := HBC.out.size
    have HT0 := Lib.hid (ho.ours (B := W2.heap.size) hsc)
    have HU0 := Lib.hid (ho2.ours (B := W2.heap.size) hsc)
    have hmtb := ho.2.1
    have hmub := ho2.2.1
    replace HS0 := Lib.hid (HS0.out.keep hb rfl)
    replace HBC := Lib.hid (HBC.out.trans (hb.mono hsc))
    replace OX := Lib.hid (own_kept OX.out hb rfl)
    replace H0 := Lib.hid (H0.out.below hb)
    replace P := Lib.hid (P.out.below hb)
    have HXY := Lib.hid (show gx < W2.heap.size from hgx)
    clear ho ho2 hb CC
    obtain ⟨b2, hb2⟩ : ∃ b2 : Nat, b2 = W2.heap.size := ⟨_, rfl⟩
    rw [← hb2] at HS0 HT0 HU0 HXY HBC
    go_wp2_with fail
    go_loopw [9] (fun i wr => ∃ (k : Nat), k ≤ ms ∧ i = .int .i64 (k : Int) ∧ Hid (Ours wr b2 (.slice As ms cs) ms) ∧ Hid (Ours wr b2 (.slice At mt ct) mt) ∧ Hid (Ours wr b2 (.slice Au mu cu) mu) ∧ Hid (Below b2 W4 wr)) (fun i _ => ms - (intOf i).toNat)
    case atStart => exact ⟨0, by omega, rfl, HS0, HT0, HU0, Lib.hid (Below.refl _ _)⟩
    case round =>
      clear HS0 HT0 HU0
      obtain ⟨k, hk, rfl, HS0, HT0, HU0, HBD⟩ := hrel
      by_cases hlt : k < ms
      · obtain ⟨gs, vo, hA, hgs, hcell, hfr⟩ := HS0.out.round hlt
        subst hA
        go_wp2
        go_roundw
        case rel => exact ⟨k + 1, by omega, by go_num, Lib.hid (HS0.out.setCell _ _ _), Lib.hid (HT0.out.setCell _ _ _), Lib.hid (HU0.out.setCell _ _ _), Lib.hid (HBD.out.setCell hgs _)⟩
        case measure => simp [intOf]; omega
      · obtain rfl : ms = k := by omega
        go_wp2_with fail
        obtain ⟨Wn, hWn⟩ : ∃ W' : World, W' = wr := ⟨_, rfl⟩
        rw [← hWn] at HS0 HT0 HU0 HBD
        subst hWn
        go_loopw [10] (fun i wr => ∃ (k : Nat), k ≤ mt ∧ i = .int .i64 (k : Int) ∧ Hid (Ours wr b2 (.slice As ms cs) ms) ∧ Hid (Ours wr b2 (.slice At mt ct) mt) ∧ Hid (Ours wr b2 (.slice Au mu cu) mu) ∧ Hid (Below b2 W4 wr)) (fun i _ => mt - (intOf i).toNat)
        case atStart => exact ⟨0, by omega, rfl, HS0, HT0, HU0, HBD⟩
        case round =>
          clear HS0 HT0 HU0 HBD
          obtain ⟨k, hk, rfl, HS0, HT0, HU0, HBD⟩ := hrel
          by_cases hlt : k < mt
          · obtain ⟨gs, vo, hA, hgs, hcell, hfr⟩ := HT0.out.round hlt
            subst hA
            go_wp2
            go_roundw
            case rel => exact ⟨k + 1, by omega, by go_num, Lib.hid (HS0.out.setCell _ _ _), Lib.hid (HT0.out.setCell _ _ _), Lib.hid (HU0.out.setCell _ _ _), Lib.hid (HBD.out.setCell hgs _)⟩
            case measure => simp [intOf]; omega
          · obtain rfl : mt = k := by omega
            go_wp2_with fail
            obtain ⟨Wn, hWn⟩ : ∃ W' : World, W' = wr := ⟨_, rfl⟩
            rw [← hWn] at HS0 HT0 HU0 HBD
            subst hWn
            go_loopw [11] (fun i wr => ∃ (k : Nat), k ≤ mu ∧ i = .int .i64 (k : Int) ∧ Hid (Ours wr b2 (.slice As ms cs) ms) ∧ Hid (Ours wr b2 (.slice At mt ct) mt) ∧ Hid (Ours wr b2 (.slice Au mu cu) mu) ∧ Hid (Below b2 W4 wr)) (fun i _ => mu - (intOf i).toNat)
            case atStart => exact ⟨0, by omega, rfl, HS0, HT0, HU0, HBD⟩
            case round =>
              clear HS0 HT0 HU0 HBD
              obtain ⟨k, hk, rfl, HS0, HT0, HU0, HBD⟩ := hrel
              by_cases hlt : k < mu
              · obtain ⟨gs, vo, hA, hgs, hcell, hfr⟩ := HU0.out.round hlt
                subst hA
                go_wp2
                go_roundw
                case rel => exact ⟨k + 1, by omega, by go_num, Lib.hid (HS0.out.setCell _ _ _), Lib.hid (HT0.out.setCell _ _ _), Lib.hid (HU0.out.setCell _ _ _), Lib.hid (HBD.out.setCell hgs _)⟩
                case measure => simp [intOf]; omega
              · obtain rfl : mu = k := by omega
                go_wp2_with fail
                replace OX := Lib.hid (own_kept_lt OX.out HBD.out (fun j hj => by have := HXY.out; simp [Value.ownBlock] at hj; omega))
                have hb4 := Below.trans HBC.out HBD.out
                have hbw : Below W2.heap.size W2 wr := by rw [← hb2]; exact hb4
                replace B := Lib.hid (B.out.trans (hbw.mono B.out.size))
                have HW := Lib.hid hbw
                clear HS0 HT0 HU0 HBD hb4 hbw HBC
                replace H0 := Lib.hid (H2.out.below HW.out)
                replace P := Lib.hid (P2.out.below HW.out)
                clear HW H2 P2
                refine (answers04_c _ P.out).mono ?_
                rintro e W9 ⟨rfl, hb⟩
                replace B := Lib.hid (B.out.trans (hb.mono B.out.size))
                replace OX := Lib.hid (own_kept OX.out hb rfl)
                replace H0 := Lib.hid (H0.out.below hb)
                clear hb
                go_wp2_with fail
                refine (same_c (some ⟨gx, 0, none⟩) a0 n0 cx n0 c0 x0 x0 W9 (own_prefix OX.out H0.out.len (by omega) H0.out.2.2) H0.out).mono ?_
                rw [decide_eq_true rfl]
                rintro e W10 ⟨rfl, hb⟩
                replace B := Lib.hid (B.out.trans (hb.mono B.out.size))
                replace OX := Lib.hid (own_kept OX.out hb rfl)
                replace H0 := Lib.hid (H0.out.below hb)
                clear hb
                have hc7 := own_cell_behind OX.out 0 7 rfl
                rw [H0.out.len, Nat.add_zero] at hc7
                have hc7' : W10.cell? ⟨gx, n0, none⟩ = some (.int .u32 7) := hc7
                clear hc7
                go_wp2
                go_ret
                exact ⟨rfl, B.out⟩
end Go.Proofs.YtpbkndmciopnjaaDoor
