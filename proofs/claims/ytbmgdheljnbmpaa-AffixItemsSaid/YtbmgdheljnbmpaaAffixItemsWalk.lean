/-
  AffixItems: the walk.
-/
import Derived.Test.YtbmgdheljnbmpaaVG
set_option maxRecDepth 100000
namespace Go.Proofs.Ytbmgdheljnbmpaa
open Go.RowKit
set_option maxHeartbeats 4000000 in
theorem walk_affixItems (A : Option Addr) (n c : Nat) (ts : List Tok) (w : World) (h : Tks w A n ts) :
    Calls Try.prog 3 #[.slice A n c] w fun e w' => e = .returned (.bool true) ∧ Below w.heap.size w w' := by
  have hn := h.2.1
  have H := Lib.hid h
  clear h
  by_cases hbig : 500 < n
  · have g1 : decide ((500 : Int) < (n : Int)) = true := decide_eq_true (by omega)
    go_enter Try.func3, Try.ntmps3
    go_wp2_with fail
    refine (answers14_c _).mono ?_
    rintro e w1 ⟨rfl, hb1⟩
    have HB_1 := Lib.hid hb1
    clear hb1
    go_wp2
    go_ret
    exact ⟨rfl, HB_1.out⟩
  · have g1 : decide ((500 : Int) < (n : Int)) = false := decide_eq_false (by omega)
    have C1 := Lib.hid (fun W hW => affItems_c A n c ts W hW)
    have C2 := Lib.hid (fun W hW => refItems_c A n c ts W hW (by omega))
    generalize itms ts = F at *
    obtain ⟨is, E, at0⟩ := F
    dsimp only at C1 C2
    go_enter Try.func3, Try.ntmps3
    go_wp2_with fail
    refine (C1.out _ H.out).mono ?_
    rintro e w1 ⟨Aa, ma, ca, rfl, hoa, hbx1⟩
    have hb1 := hbx1.out
    have Ta := Lib.hid hoa.out.its
    have La := Lib.hid hoa.out.len
    clear hoa hbx1
    have H_1 := Lib.hid (H.out.below hb1)
    clear H
    have HB_1 := Lib.hid hb1
    clear hb1
    have ba2 := (Below.refl _ w1).alloc (Nat.le_refl _) (.cells #[(.int .i64 E), (.int .i64 at0)] 27)
    have H_2 := Lib.hid (H_1.out.below ba2)
    clear H_1
    have Ta_1 := Lib.hid (Ta.out.below ba2)
    clear Ta
    have HB_2 := Lib.hid (HB_1.out.trans (ba2.mono HB_1.out.size))
    clear HB_1
    clear ba2
    have Fa_0 := Lib.hid (FB.new w1 (.int .i64 E) (.int .i64 at0))
    go_wp2_with fail
    refine (C2.out _ H_2.out).mono ?_
    rintro e w3 ⟨Ab, mb, cb, rfl, hob, hbx3⟩
    have hb3 := hbx3.out
    have Tb := Lib.hid hob.out.its
    have Lb := Lib.hid hob.out.len
    clear hob hbx3
    have H_3 := Lib.hid (H_2.out.below hb3)
    clear H_2
    have Ta_2 := Lib.hid (Ta_1.out.below hb3)
    clear Ta_1
    have Fa_1 := Lib.hid (Fa_0.out.below hb3 Fa_0.out.lt)
    clear Fa_0
    have HB_3 := Lib.hid (HB_2.out.trans (hb3.mono HB_2.out.size))
    clear HB_2
    clear hb3
    have ba4 := (Below.refl _ w3).alloc (Nat.le_refl _) (.cells #[(.int .i64 E), (.int .i64 at0)] 27)
    have H_4 := Lib.hid (H_3.out.below ba4)
    clear H_3
    have Ta_3 := Lib.hid (Ta_2.out.below ba4)
    clear Ta_2
    have Fa_2 := Lib.hid (Fa_1.out.below ba4 Fa_1.out.lt)
    clear Fa_1
    have Tb_1 := Lib.hid (Tb.out.below ba4)
    clear Tb
    have HB_4 := Lib.hid (HB_3.out.trans (ba4.mono HB_3.out.size))
    clear HB_3
    clear ba4
    have Fb_0 := Lib.hid (FB.new w3 (.int .i64 E) (.int .i64 at0))
    go_wp2_with fail
    refine (answers14_c _).mono ?_
    rintro e w5 ⟨rfl, hb5⟩
    have H_5 := Lib.hid (H_4.out.below hb5)
    clear H_4
    have Ta_4 := Lib.hid (Ta_3.out.below hb5)
    clear Ta_3
    have Fa_3 := Lib.hid (Fa_2.out.below hb5 Fa_2.out.lt)
    clear Fa_2
    have Tb_2 := Lib.hid (Tb_1.out.below hb5)
    clear Tb_1
    have Fb_1 := Lib.hid (Fb_0.out.below hb5 Fb_0.out.lt)
    clear Fb_0
    have HB_5 := Lib.hid (HB_4.out.trans (hb5.mono HB_4.out.size))
    clear HB_4
    clear hb5
    have Fa0 := Fa_3.out.c0
    have Fa1 := Fa_3.out.c1
    have Fb0 := Fb_1.out.c0
    have Fb1 := Fb_1.out.c1
    obtain rfl : mb = ma := Lb.out.symm.trans La.out
    have CS := Lib.hid (sameI_c Aa Ab mb ca mb cb is is _ Ta_4.out Tb_2.out)
    rw [decide_eq_true rfl] at CS
    go_wp2_with fail
    refine (CS.out).mono ?_
    rintro e w6 ⟨rfl, hb6⟩
    have H_6 := Lib.hid (H_5.out.below hb6)
    clear H_5
    have Ta_5 := Lib.hid (Ta_4.out.below hb6)
    clear Ta_4
    have Fa_4 := Lib.hid (Fa_3.out.below hb6 Fa_3.out.lt)
    clear Fa_3
    have Tb_3 := Lib.hid (Tb_2.out.below hb6)
    clear Tb_2
    have Fb_2 := Lib.hid (Fb_1.out.below hb6 Fb_1.out.lt)
    clear Fb_1
    have HB_6 := Lib.hid (HB_5.out.trans (hb6.mono HB_5.out.size))
    clear HB_5
    clear hb6
    go_wp2
    go_ret
    exact ⟨rfl, HB_6.out⟩
end Go.Proofs.Ytbmgdheljnbmpaa
