/-
  TokenScans: the walk.
-/
import Derived.Test.YtglmcbdekmjlkaaTJ
set_option maxRecDepth 100000
namespace Go.Proofs.Ytglmcbdekmjlkaa
open Go.RowKit
set_option maxHeartbeats 4000000 in
theorem walk_tokenScans (s : ByteArray) (w : World) (_hs : s.size ≤ maxLen) :
    Calls Try.prog 3 #[.string s] w fun e w' => e = .returned (.bool true) ∧ Below w.heap.size w w' := by
  by_cases hgt : 2000 < s.size
  · have g1 : decide ((2000 : Int) < (s.size : Int)) = true := decide_eq_true (by omega)
    go_enter Try.func3, Try.ntmps3
    go_wp2_with fail
    refine (answers13_c _).mono ?_
    rintro e w1 ⟨rfl, hb1⟩
    have HB_1 := Lib.hid hb1
    clear hb1
    go_wp2
    go_ret
    exact ⟨rfl, HB_1.out⟩
  · have g1 : decide ((2000 : Int) < (s.size : Int)) = false := decide_eq_false (by omega)
    have C1 := Lib.hid (fun W => tokScan_c s W (by omega))
    have C2 := Lib.hid (fun W => refScan_c s W (by omega))
    generalize toks (bts s) = F at *
    obtain ⟨ts, E, at0⟩ := F
    dsimp only at C1 C2
    go_enter Try.func3, Try.ntmps3
    go_wp2_with fail
    refine (C1.out _).mono ?_
    rintro e w1 ⟨Aa, ma, ca, rfl, hoa, hbx1⟩
    have hb1 := hbx1.out
    have Ta := Lib.hid hoa.out.tks
    have La := Lib.hid hoa.out.len
    clear hoa hbx1
    have HB_1 := Lib.hid hb1
    clear hb1
    have ba2 := (Below.refl _ w1).alloc (Nat.le_refl _) (.cells #[(.int .i64 E), (.int .i64 at0)] 26)
    have Ta_1 := Lib.hid (Ta.out.below ba2)
    clear Ta
    have HB_2 := Lib.hid (HB_1.out.trans (ba2.mono HB_1.out.size))
    clear HB_1
    clear ba2
    have Fa_0 := Lib.hid (FB.new w1 (.int .i64 E) (.int .i64 at0))
    go_wp2_with fail
    refine (C2.out _).mono ?_
    rintro e w3 ⟨Ab, mb, cb, rfl, hob, hbx3⟩
    have hb3 := hbx3.out
    have Tb := Lib.hid hob.out.tks
    have Lb := Lib.hid hob.out.len
    clear hob hbx3
    have Ta_2 := Lib.hid (Ta_1.out.below hb3)
    clear Ta_1
    have Fa_1 := Lib.hid (Fa_0.out.below hb3 Fa_0.out.lt)
    clear Fa_0
    have HB_3 := Lib.hid (HB_2.out.trans (hb3.mono HB_2.out.size))
    clear HB_2
    clear hb3
    have ba4 := (Below.refl _ w3).alloc (Nat.le_refl _) (.cells #[(.int .i64 E), (.int .i64 at0)] 26)
    have Ta_3 := Lib.hid (Ta_2.out.below ba4)
    clear Ta_2
    have Fa_2 := Lib.hid (Fa_1.out.below ba4 Fa_1.out.lt)
    clear Fa_1
    have Tb_1 := Lib.hid (Tb.out.below ba4)
    clear Tb
    have HB_4 := Lib.hid (HB_3.out.trans (ba4.mono HB_3.out.size))
    clear HB_3
    clear ba4
    have Fb_0 := Lib.hid (FB.new w3 (.int .i64 E) (.int .i64 at0))
    have f0 := Fa_2.out.c0
    have f1 := Fa_2.out.c1
    obtain rfl : mb = ma := Lb.out.symm.trans La.out
    have CS := Lib.hid (sameT_c Aa Ab mb ca mb cb ts ts _ Ta_3.out Tb_1.out)
    rw [decide_eq_true rfl] at CS
    go_wp2_with fail
    refine (CS.out).mono ?_
    rintro e w5 ⟨rfl, hb5⟩
    have Ta_4 := Lib.hid (Ta_3.out.below hb5)
    clear Ta_3
    have Fa_3 := Lib.hid (Fa_2.out.below hb5 Fa_2.out.lt)
    clear Fa_2
    have Tb_2 := Lib.hid (Tb_1.out.below hb5)
    clear Tb_1
    have Fb_1 := Lib.hid (Fb_0.out.below hb5 Fb_0.out.lt)
    clear Fb_0
    have HB_5 := Lib.hid (HB_4.out.trans (hb5.mono HB_4.out.size))
    clear HB_4
    clear hb5
    go_wp2
    have hmb := Ta_4.out.2.1
    go_loopw [7] (fun iv wr => ∃ k j : Nat, k ≤ mb ∧ iv = .int .i64 (k : Int) ∧ wr = w5.drewN j) (fun iv _ => mb - (intOf iv).toNat)
    case atStart => exact ⟨0, 0, Nat.zero_le _, rfl, rfl⟩
    case round =>
      obtain ⟨k, j, hk, rfl, rfl⟩ := hrel
      by_cases hlt : k < mb
      · obtain ⟨ad, rfl, _, _, _, x2, _⟩ := Ta_4.out.at_ hlt
        obtain ⟨ad', rfl, _, _, _, y2, _⟩ := Tb_2.out.at_ hlt
        generalize (tk ts k).2.2 = X at x2 y2
        go_wp2
        go_quiet (fail)
        go_wp2
        go_roundw
        case rel => exact ⟨k + 1, _, by omega, by go_num, rfl⟩
        case measure => simp [intOf]; omega
      · go_wp2_with fail
        refine (answers13_c _).mono ?_
        rintro e wz ⟨rfl, hbz⟩
        have HZ := Lib.hid (HB_5.out.trans ((((Below.refl _ _).of_drewN j).trans hbz).mono HB_5.out.size))
        clear hbz
        go_wp2
        go_ret
        exact ⟨rfl, HZ.out⟩
end Go.Proofs.Ytglmcbdekmjlkaa
