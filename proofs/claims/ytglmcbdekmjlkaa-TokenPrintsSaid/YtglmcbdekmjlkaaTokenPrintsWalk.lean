/-
  TokenPrints: the walk.
-/
import Derived.Test.YtglmcbdekmjlkaaTJ
set_option maxRecDepth 100000
namespace Go.Proofs.Ytglmcbdekmjlkaa
open Go.RowKit
theorem prtZ_bad {ts : List Tok} (h : ts.all mayT = false) : prtZ ts = ⟨#[]⟩ := by
  rw [prtZ, h]; rfl
set_option maxHeartbeats 4000000 in
theorem walk_tokenPrints (A : Option Addr) (n c : Nat) (ts : List Tok) (w : World) (h : Tks w A n ts) :
    Calls Try.prog 4 #[.slice A n c] w fun e w' => e = .returned (.bool true) ∧ Below w.heap.size w w' := by
  have HL := Lib.hid h.len
  have hn := h.2.1
  have H := Lib.hid h
  clear h
  by_cases hbig : 400 < n
  · have g1 : decide ((400 : Int) < (n : Int)) = true := decide_eq_true (by omega)
    go_enter Try.func4, Try.ntmps4
    go_wp2_with fail
    refine (answers13_c _).mono ?_
    rintro e w1 ⟨rfl, hb1⟩
    have HB_1 := Lib.hid hb1
    clear hb1
    go_wp2
    go_ret
    exact ⟨rfl, HB_1.out⟩
  · have g1 : decide ((400 : Int) < (n : Int)) = false := decide_eq_false (by omega)
    go_enter Try.func4, Try.ntmps4
    go_wp2
    go_loopw [3, 4] (fun mv iv wr => ∃ (k : Nat), k ≤ n ∧ iv = .int .i64 (k : Int) ∧ mv = .bool ((ts.take k).all mayT) ∧ wr = w) (fun _ iv _ => n - (intOf iv).toNat)
    case atStart => exact ⟨0, Nat.zero_le _, rfl, rfl, rfl⟩
    case round =>
      obtain ⟨k, hk, rfl, rfl, rfl⟩ := hrel
      by_cases hlt : k < n
      · have HTK := Lib.hid (tk_take_succ ts (k := k) (by rw [HL.out]; exact hlt))
        obtain ⟨ad, rfl, _, c0, c1, _, _⟩ := H.out.at_ hlt
        rcases hm : (ts.take k).all mayT with _ | _
        · have HM := Lib.hid hm
          clear hm
          go_wp2
          go_roundw
          case rel =>
            refine ⟨k + 1, by omega, by go_num, ?_, by first | trivial | rfl⟩
            rw [HTK.out, List.all_append, HM.out]; rfl
          case measure => simp [intOf]; omega
        · have HM := Lib.hid hm
          clear hm
          have hstep : (ts.take (k + 1)).all mayT = mayT (tk ts k) := by rw [HTK.out, List.all_append, HM.out]; simp
          have HSTEP := Lib.hid hstep
          clear hstep
          generalize tk ts k = t at *
          obtain ⟨r, q, p⟩ := t
          dsimp only at c0 c1
          have CZ := Lib.hid (refScalar_c r wr)
          rcases hz : isZ r with _ | _
          · rw [hz] at CZ
            have HV := Lib.hid (show mayT (r, q, p) = false by rw [mayT, hz]; rfl)
            clear hz
            go_wp2_with fail
            refine CZ.out.mono ?_
            rintro e w0 ⟨rfl, rfl⟩
            go_wp2
            go_roundw
            case rel => exact ⟨k + 1, by omega, by go_num, by rw [HSTEP.out, HV.out], by first | trivial | rfl⟩
            case measure => simp [intOf]; omega
          · rw [hz] at CZ
            cases q
            · by_cases h39 : r = 39
              · have g39 : (r != 39) = false := by simpa using h39
                have HV := Lib.hid (show mayT (r, false, p) = false by rw [mayT, hz]; simp [h39])
                clear hz h39
                go_wp2_with fail
                refine CZ.out.mono ?_
                rintro e w0 ⟨rfl, rfl⟩
                go_wp2
                go_roundw
                case rel => exact ⟨k + 1, by omega, by go_num, by rw [HSTEP.out, HV.out], by first | trivial | rfl⟩
                case measure => simp [intOf]; omega
              · have g39 : (r != 39) = true := by simpa using h39
                have HV := Lib.hid (show mayT (r, false, p) = true by rw [mayT, hz]; simp [h39])
                clear hz h39
                go_wp2_with fail
                refine CZ.out.mono ?_
                rintro e w0 ⟨rfl, rfl⟩
                go_wp2
                go_roundw
                case rel => exact ⟨k + 1, by omega, by go_num, by rw [HSTEP.out, HV.out], by first | trivial | rfl⟩
                case measure => simp [intOf]; omega
            · have HV := Lib.hid (show mayT (r, true, p) = true by rw [mayT, hz]; rfl)
              clear hz
              go_wp2_with fail
              refine CZ.out.mono ?_
              rintro e w0 ⟨rfl, rfl⟩
              go_wp2
              go_roundw
              case rel => exact ⟨k + 1, by omega, by go_num, by rw [HSTEP.out, HV.out], by first | trivial | rfl⟩
              case measure => simp [intOf]; omega
      · have hkn' : k = n := by omega
        subst hkn'
        rw [List.take_of_length_le (by rw [HL.out]; exact Nat.le_refl _)]
        have CP := Lib.hid (tokPrint_c A k c ts wr H.out (by omega))
        rcases hm : ts.all mayT with _ | _
        · rw [prtZ_bad hm] at CP
          clear hm
          go_wp2_with fail
          refine (CP.out).mono ?_
          rintro e w1 ⟨rfl, hbx1⟩
          have hb1 := hbx1.out
          clear hbx1
          have HB_1 := Lib.hid hb1
          clear hb1
          go_wp2_with fail
          refine (answers13_c _).mono ?_
          rintro e w2 ⟨rfl, hb2⟩
          have HB_2 := Lib.hid (HB_1.out.trans (hb2.mono HB_1.out.size))
          clear HB_1
          clear hb2
          go_wp2
          go_ret
          exact ⟨rfl, HB_2.out⟩
        · have CD := Lib.hid (fun W hW => refPrint_c A k c ts W hW (by omega) hm)
          obtain ⟨us, hus, her⟩ := toks_prt hm (show ts.length ≤ 400 by rw [HL.out]; omega)
          have C2 := Lib.hid (fun W => tokScan_c (prtZ ts) W (by have := prtZ_size ts; rw [HL.out] at this; omega))
          rw [hus] at C2
          have HER := Lib.hid her.symm
          clear hm hus her
          go_wp2_with fail
          refine (CP.out).mono ?_
          rintro e w1 ⟨rfl, hbx1⟩
          have hb1 := hbx1.out
          clear hbx1
          have H_1 := Lib.hid (H.out.below hb1)
          clear H
          have HB_1 := Lib.hid hb1
          clear hb1
          go_wp2_with fail
          refine (C2.out _).mono ?_
          rintro e w2 ⟨Ab, mb, cb, rfl, hob, hbx2⟩
          have hb2 := hbx2.out
          have Tb := Lib.hid hob.out.tks
          have Lb := Lib.hid hob.out.len
          clear hob hbx2
          have H_2 := Lib.hid (H_1.out.below hb2)
          clear H_1
          have HB_2 := Lib.hid (HB_1.out.trans (hb2.mono HB_1.out.size))
          clear HB_1
          clear hb2
          have ba3 := (Below.refl _ w2).alloc (Nat.le_refl _) (.cells #[(.int .i64 0), (.int .i64 0)] 26)
          have H_3 := Lib.hid (H_2.out.below ba3)
          clear H_2
          have Tb_1 := Lib.hid (Tb.out.below ba3)
          clear Tb
          have HB_3 := Lib.hid (HB_2.out.trans (ba3.mono HB_2.out.size))
          clear HB_2
          clear ba3
          have Fb_0 := Lib.hid (FB.new w2 (.int .i64 0) (.int .i64 0))
          go_wp2_with fail
          refine (answers13_c _).mono ?_
          rintro e w4 ⟨rfl, hb4⟩
          have H_4 := Lib.hid (H_3.out.below hb4)
          clear H_3
          have Tb_2 := Lib.hid (Tb_1.out.below hb4)
          clear Tb_1
          have Fb_1 := Lib.hid (Fb_0.out.below hb4 Fb_0.out.lt)
          clear Fb_0
          have HB_4 := Lib.hid (HB_3.out.trans (hb4.mono HB_3.out.size))
          clear HB_3
          clear hb4
          go_wp2_with fail
          refine (CD.out _ H_4.out).mono ?_
          rintro e w5 ⟨rfl, hb5⟩
          have H_5 := Lib.hid (H_4.out.below hb5)
          clear H_4
          have Tb_3 := Lib.hid (Tb_2.out.below hb5)
          clear Tb_2
          have Fb_2 := Lib.hid (Fb_1.out.below hb5 Fb_1.out.lt)
          clear Fb_1
          have HB_5 := Lib.hid (HB_4.out.trans (hb5.mono HB_4.out.size))
          clear HB_4
          clear hb5
          have f0 := Fb_2.out.c0
          have CS := Lib.hid (sameT_c A Ab k c mb cb ts us _ H_5.out Tb_3.out)
          rw [decide_eq_true HER.out] at CS
          go_wp2_with fail
          refine (CS.out).mono ?_
          rintro e w6 ⟨rfl, hb6⟩
          have H_6 := Lib.hid (H_5.out.below hb6)
          clear H_5
          have Tb_4 := Lib.hid (Tb_3.out.below hb6)
          clear Tb_3
          have Fb_3 := Lib.hid (Fb_2.out.below hb6 Fb_2.out.lt)
          clear Fb_2
          have HB_6 := Lib.hid (HB_5.out.trans (hb6.mono HB_5.out.size))
          clear HB_5
          clear hb6
          go_wp2
          go_ret
          exact ⟨rfl, HB_6.out⟩
end Go.Proofs.Ytglmcbdekmjlkaa
