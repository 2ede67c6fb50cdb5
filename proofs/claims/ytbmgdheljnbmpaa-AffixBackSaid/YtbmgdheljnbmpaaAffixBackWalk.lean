/-
  AffixBack: the walk.
-/
import Derived.Test.YtbmgdheljnbmpaaVG
set_option maxRecDepth 100000
namespace Go.Proofs.Ytbmgdheljnbmpaa
open Go.RowKit
set_option maxHeartbeats 4000000 in
theorem walk_affixBack (A : Option Addr) (n c : Nat) (is : List Itm) (w : World) (h : Its w A n is) :
    Calls Try.prog 5 #[.slice A n c] w fun e w' => e = .returned (.bool true) ∧ Below w.heap.size w w' := by
  have hn := h.2.1
  have HL := Lib.hid h.len
  have H := Lib.hid h
  clear h
  by_cases hbig : 40 < n
  · have g1 : decide ((40 : Int) < (n : Int)) = true := decide_eq_true (by omega)
    go_enter Try.func5, Try.ntmps5
    go_wp2_with fail
    refine (answers14_c _).mono ?_
    rintro e w1 ⟨rfl, hb1⟩
    have HB_1 := Lib.hid hb1
    clear hb1
    go_wp2
    go_ret
    exact ⟨rfl, HB_1.out⟩
  · have g1 : decide ((40 : Int) < (n : Int)) = false := decide_eq_false (by omega)
    have C2 := Lib.hid (fun W hW => refMay_c A n c is W hW)
    have C3 := Lib.hid (fun W hW => affPrint_c A n c is W hW (by omega))
    rcases hm : is.all mayI with _ | _
    · rw [hm] at C2
      clear hm
      go_enter Try.func5, Try.ntmps5
      go_wp2_with fail
      refine (C2.out _ H.out).mono ?_
      rintro e w1 ⟨rfl, rfl⟩
      go_wp2_with fail
      refine (answers14_c _).mono ?_
      rintro e w1 ⟨rfl, hb1⟩
      have H_1 := Lib.hid (H.out.below hb1)
      clear H
      have HB_1 := Lib.hid hb1
      clear hb1
      go_wp2
      go_ret
      exact ⟨rfl, HB_1.out⟩
    · rw [hm] at C2
      have hlen := tksI_len is
      rw [HL.out] at hlen
      obtain ⟨us, hus, her⟩ := toks_prt (tksI_mayT is) (show (tksI is).length ≤ 400 by omega)
      have C4 := Lib.hid (fun W => tokScan_c (prtZ (tksI is)) W (by have := prtZ_size (tksI is); omega))
      rw [hus] at C4
      have HB := Lib.hid (itms_back hm (by rw [HL.out]; omega) her)
      clear hm hus her
      generalize prtZ (tksI is) = s at *
      go_enter Try.func5, Try.ntmps5
      go_wp2_with fail
      refine (C2.out _ H.out).mono ?_
      rintro e w1 ⟨rfl, rfl⟩
      go_wp2_with fail
      refine (C3.out _ H.out).mono ?_
      rintro e w1 ⟨rfl, hbx1⟩
      have hb1 := hbx1.out
      clear hbx1
      have H_1 := Lib.hid (H.out.below hb1)
      clear H
      have HB_1 := Lib.hid hb1
      clear hb1
      go_wp2_with fail
      refine (C4.out _).mono ?_
      rintro e w2 ⟨Aa, ma, ca, rfl, hoa, hbx2⟩
      have hb2 := hbx2.out
      have Ta := Lib.hid hoa.out.tks
      have La := Lib.hid hoa.out.len
      clear hoa hbx2
      have H_2 := Lib.hid (H_1.out.below hb2)
      clear H_1
      have HB_2 := Lib.hid (HB_1.out.trans (hb2.mono HB_1.out.size))
      clear HB_1
      clear hb2
      have ba3 := (Below.refl _ w2).alloc (Nat.le_refl _) (.cells #[(.int .i64 0), (.int .i64 0)] 27)
      have H_3 := Lib.hid (H_2.out.below ba3)
      clear H_2
      have Ta_1 := Lib.hid (Ta.out.below ba3)
      clear Ta
      have HB_3 := Lib.hid (HB_2.out.trans (ba3.mono HB_2.out.size))
      clear HB_2
      clear ba3
      have Fa_0 := Lib.hid (FB.new w2 (.int .i64 0) (.int .i64 0))
      have C5 := Lib.hid (affItems_c Aa ma ca us _ Ta_1.out)
      rw [HB.out] at C5
      go_wp2_with fail
      refine (C5.out).mono ?_
      rintro e w4 ⟨Ab, mb, cb, rfl, hob, hbx4⟩
      have hb4 := hbx4.out
      have Tb := Lib.hid hob.out.its
      have Lb := Lib.hid hob.out.len
      clear hob hbx4
      have H_4 := Lib.hid (H_3.out.below hb4)
      clear H_3
      have Ta_2 := Lib.hid (Ta_1.out.below hb4)
      clear Ta_1
      have Fa_1 := Lib.hid (Fa_0.out.below hb4 Fa_0.out.lt)
      clear Fa_0
      have HB_4 := Lib.hid (HB_3.out.trans (hb4.mono HB_3.out.size))
      clear HB_3
      clear hb4
      have ba5 := (Below.refl _ w4).alloc (Nat.le_refl _) (.cells #[(.int .i64 0), (.int .i64 0)] 27)
      have H_5 := Lib.hid (H_4.out.below ba5)
      clear H_4
      have Ta_3 := Lib.hid (Ta_2.out.below ba5)
      clear Ta_2
      have Fa_2 := Lib.hid (Fa_1.out.below ba5 Fa_1.out.lt)
      clear Fa_1
      have Tb_1 := Lib.hid (Tb.out.below ba5)
      clear Tb
      have HB_5 := Lib.hid (HB_4.out.trans (ba5.mono HB_4.out.size))
      clear HB_4
      clear ba5
      have Fb_0 := Lib.hid (FB.new w4 (.int .i64 0) (.int .i64 0))
      go_wp2_with fail
      refine (answers14_c _).mono ?_
      rintro e w6 ⟨rfl, hb6⟩
      have H_6 := Lib.hid (H_5.out.below hb6)
      clear H_5
      have Ta_4 := Lib.hid (Ta_3.out.below hb6)
      clear Ta_3
      have Fa_3 := Lib.hid (Fa_2.out.below hb6 Fa_2.out.lt)
      clear Fa_2
      have Tb_2 := Lib.hid (Tb_1.out.below hb6)
      clear Tb_1
      have Fb_1 := Lib.hid (Fb_0.out.below hb6 Fb_0.out.lt)
      clear Fb_0
      have HB_6 := Lib.hid (HB_5.out.trans (hb6.mono HB_5.out.size))
      clear HB_5
      clear hb6
      have Fa0 := Fa_3.out.c0
      have Fb0 := Fb_1.out.c0
      have CS := Lib.hid (sameI_c Ab A mb cb n c is is _ Tb_2.out H_6.out)
      rw [decide_eq_true rfl] at CS
      go_wp2_with fail
      refine (CS.out).mono ?_
      rintro e w7 ⟨rfl, hb7⟩
      have H_7 := Lib.hid (H_6.out.below hb7)
      clear H_6
      have Ta_5 := Lib.hid (Ta_4.out.below hb7)
      clear Ta_4
      have Fa_4 := Lib.hid (Fa_3.out.below hb7 Fa_3.out.lt)
      clear Fa_3
      have Tb_3 := Lib.hid (Tb_2.out.below hb7)
      clear Tb_2
      have Fb_2 := Lib.hid (Fb_1.out.below hb7 Fb_1.out.lt)
      clear Fb_1
      have HB_7 := Lib.hid (HB_6.out.trans (hb7.mono HB_6.out.size))
      clear HB_6
      clear hb7
      go_wp2
      go_ret
      exact ⟨rfl, HB_7.out⟩
end Go.Proofs.Ytbmgdheljnbmpaa
