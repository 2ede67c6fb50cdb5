/-
  TokenFixed: the walk.
-/
import Derived.Test.YtglmcbdekmjlkaaTJ
set_option maxRecDepth 100000
namespace Go.Proofs.Ytglmcbdekmjlkaa
open Go.RowKit
set_option maxHeartbeats 4000000 in
theorem walk_tokenFixed (s : ByteArray) (w : World) (_hs : s.size ≤ maxLen) :
    Calls Try.prog 5 #[.string s] w fun e w' => e = .returned (.bool true) ∧ Below w.heap.size w w' := by
  by_cases hgt : 1000 < s.size
  · have g1 : decide ((1000 : Int) < (s.size : Int)) = true := decide_eq_true (by omega)
    go_enter Try.func5, Try.ntmps5
    go_wp2_with fail
    refine (answers13_c _).mono ?_
    rintro e w1 ⟨rfl, hb1⟩
    have HB_1 := Lib.hid hb1
    clear hb1
    go_wp2
    go_ret
    exact ⟨rfl, HB_1.out⟩
  · have g1 : decide ((1000 : Int) < (s.size : Int)) = false := decide_eq_false (by omega)
    have C1 := Lib.hid (fun W => tokScan_c s W (by omega))
    have hsp := toks_spec (bts_lt s)
    generalize toks (bts s) = F at *
    obtain ⟨ts, E, at0⟩ := F
    dsimp only at C1 hsp
    obtain ⟨hmay, hlen, hnil⟩ := hsp
    by_cases hE : E = 0
    · subst hE
      have hlen' := hlen
      obtain ⟨us, hus, her⟩ := toks_prt hmay hlen
      have C2 := Lib.hid (fun W => tokScan_c (prtZ ts) W (by have := prtZ_size ts; omega))
      rw [hus] at C2
      have hPE := Lib.hid (prtZ_er her)
      have hul := congrArg List.length her
      rw [List.length_map, List.length_map] at hul
      have HER := Lib.hid her.symm
      have HMAY := Lib.hid hmay
      clear hmay hnil hus her
      go_enter Try.func5, Try.ntmps5
      go_wp2_with fail
      refine (C1.out _).mono ?_
      rintro e w1 ⟨Aa, ma, ca, rfl, hoa, hbx1⟩
      have hb1 := hbx1.out
      have Ta := Lib.hid hoa.out.tks
      have La := Lib.hid hoa.out.len
      clear hoa hbx1
      have HB_1 := Lib.hid hb1
      clear hb1
      have ba2 := (Below.refl _ w1).alloc (Nat.le_refl _) (.cells #[(.int .i64 0), (.int .i64 at0)] 26)
      have Ta_1 := Lib.hid (Ta.out.below ba2)
      clear Ta
      have HB_2 := Lib.hid (HB_1.out.trans (ba2.mono HB_1.out.size))
      clear HB_1
      clear ba2
      have Fa_0 := Lib.hid (FB.new w1 (.int .i64 0) (.int .i64 at0))
      have CP := Lib.hid (tokPrint_c Aa ma ca ts _ Ta_1.out (by have := La.out; omega))
      go_wp2_with fail
      refine (CP.out).mono ?_
      rintro e w3 ⟨rfl, hbx3⟩
      have hb3 := hbx3.out
      clear hbx3
      have Ta_2 := Lib.hid (Ta_1.out.below hb3)
      clear Ta_1
      have Fa_1 := Lib.hid (Fa_0.out.below hb3 Fa_0.out.lt)
      clear Fa_0
      have HB_3 := Lib.hid (HB_2.out.trans (hb3.mono HB_2.out.size))
      clear HB_2
      clear hb3
      go_wp2_with fail
      refine (C2.out _).mono ?_
      rintro e w4 ⟨Ab, mb, cb, rfl, hob, hbx4⟩
      have hb4 := hbx4.out
      have Tb := Lib.hid hob.out.tks
      have Lb := Lib.hid hob.out.len
      clear hob hbx4
      have Ta_3 := Lib.hid (Ta_2.out.below hb4)
      clear Ta_2
      have Fa_2 := Lib.hid (Fa_1.out.below hb4 Fa_1.out.lt)
      clear Fa_1
      have HB_4 := Lib.hid (HB_3.out.trans (hb4.mono HB_3.out.size))
      clear HB_3
      clear hb4
      have ba5 := (Below.refl _ w4).alloc (Nat.le_refl _) (.cells #[(.int .i64 0), (.int .i64 0)] 26)
      have Ta_4 := Lib.hid (Ta_3.out.below ba5)
      clear Ta_3
      have Fa_3 := Lib.hid (Fa_2.out.below ba5 Fa_2.out.lt)
      clear Fa_2
      have Tb_1 := Lib.hid (Tb.out.below ba5)
      clear Tb
      have HB_5 := Lib.hid (HB_4.out.trans (ba5.mono HB_4.out.size))
      clear HB_4
      clear ba5
      have Fb_0 := Lib.hid (FB.new w4 (.int .i64 0) (.int .i64 0))
      go_wp2_with fail
      refine (answers13_c _).mono ?_
      rintro e w6 ⟨rfl, hb6⟩
      have Ta_5 := Lib.hid (Ta_4.out.below hb6)
      clear Ta_4
      have Fa_4 := Lib.hid (Fa_3.out.below hb6 Fa_3.out.lt)
      clear Fa_3
      have Tb_2 := Lib.hid (Tb_1.out.below hb6)
      clear Tb_1
      have Fb_1 := Lib.hid (Fb_0.out.below hb6 Fb_0.out.lt)
      clear Fb_0
      have HB_6 := Lib.hid (HB_5.out.trans (hb6.mono HB_5.out.size))
      clear HB_5
      clear hb6
      have f0 := Fb_1.out.c0
      have CS := Lib.hid (sameT_c Aa Ab ma ca mb cb ts us _ Ta_5.out Tb_2.out)
      rw [decide_eq_true HER.out] at CS
      go_wp2_with fail
      refine (CS.out).mono ?_
      rintro e w7 ⟨rfl, hb7⟩
      have Ta_6 := Lib.hid (Ta_5.out.below hb7)
      clear Ta_5
      have Fa_5 := Lib.hid (Fa_4.out.below hb7 Fa_4.out.lt)
      clear Fa_4
      have Tb_3 := Lib.hid (Tb_2.out.below hb7)
      clear Tb_2
      have Fb_2 := Lib.hid (Fb_1.out.below hb7 Fb_1.out.lt)
      clear Fb_1
      have HB_7 := Lib.hid (HB_6.out.trans (hb7.mono HB_6.out.size))
      clear HB_6
      clear hb7
      have CQ := Lib.hid (tokPrint_c Ab mb cb us _ Tb_3.out (by have := Lb.out; omega))
      rw [hPE.out] at CQ
      go_wp2_with fail
      refine (CQ.out).mono ?_
      rintro e w8 ⟨rfl, hbx8⟩
      have hb8 := hbx8.out
      clear hbx8
      have Ta_7 := Lib.hid (Ta_6.out.below hb8)
      clear Ta_6
      have Fa_6 := Lib.hid (Fa_5.out.below hb8 Fa_5.out.lt)
      clear Fa_5
      have Tb_4 := Lib.hid (Tb_3.out.below hb8)
      clear Tb_3
      have Fb_3 := Lib.hid (Fb_2.out.below hb8 Fb_2.out.lt)
      clear Fb_2
      have HB_8 := Lib.hid (HB_7.out.trans (hb8.mono HB_7.out.size))
      clear HB_7
      clear hb8
      go_wp2
      go_ret
      exact ⟨rfl, HB_8.out⟩
    · have gE : (E != 0) = true := by simpa using hE
      obtain rfl := hnil hE
      clear hmay hlen hnil hE
      go_enter Try.func5, Try.ntmps5
      go_wp2_with fail
      refine (C1.out _).mono ?_
      rintro e w1 ⟨Aa, ma, ca, rfl, hoa, hbx1⟩
      have hb1 := hbx1.out
      have Ta := Lib.hid hoa.out.tks
      have La := Lib.hid hoa.out.len
      clear hoa hbx1
      have HB_1 := Lib.hid hb1
      clear hb1
      have ba2 := (Below.refl _ w1).alloc (Nat.le_refl _) (.cells #[(.int .i64 E), (.int .i64 at0)] 26)
      have Ta_1 := Lib.hid (Ta.out.below ba2)
      clear Ta
      have HB_2 := Lib.hid (HB_1.out.trans (ba2.mono HB_1.out.size))
      clear HB_1
      clear ba2
      have Fa_0 := Lib.hid (FB.new w1 (.int .i64 E) (.int .i64 at0))
      obtain rfl : 0 = ma := La.out
      go_wp2_with fail
      refine (answers13_c _).mono ?_
      rintro e w3 ⟨rfl, hb3⟩
      have Ta_2 := Lib.hid (Ta_1.out.below hb3)
      clear Ta_1
      have Fa_1 := Lib.hid (Fa_0.out.below hb3 Fa_0.out.lt)
      clear Fa_0
      have HB_3 := Lib.hid (HB_2.out.trans (hb3.mono HB_2.out.size))
      clear HB_2
      clear hb3
      go_wp2
      go_ret
      exact ⟨rfl, HB_3.out⟩
end Go.Proofs.Ytglmcbdekmjlkaa
