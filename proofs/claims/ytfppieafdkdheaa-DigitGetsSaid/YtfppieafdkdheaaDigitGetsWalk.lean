/-
  DigitGets: the walk.
-/
import Derived.Test.YtfppieafdkdheaaUI
set_option maxRecDepth 100000
namespace Go.Proofs.Ytfppieafdkdheaa
open Go.RowKit
set_option maxHeartbeats 2000000 in
theorem walk_digitGets (z : Int) (s : ByteArray) (w : World) (hz : -2147483648 ≤ z ∧ z ≤ 2147483647) (hs : s.size ≤ maxLen) :
    Calls Try.prog 5 #[.int .i32 z, .string s] w fun e w' => e = .returned (.bool true) ∧ Below w.heap.size w w' := by
  unfold maxLen at hs
  have hC3 := fun W => refZero_c z W hz
  by_cases h0 : z < 0
  · clear hC3
    go_enter Try.func5, Try.ntmps5
    go_wp2_with fail
    refine (answers12_c _).mono ?_
    rintro e w1 ⟨rfl, hb1⟩
    have B1 := Lib.hid hb1
    clear hb1
    go_wp2
    go_ret
    exact ⟨rfl, B1.out⟩
  rcases hsys : sysZ z with _ | _
  · rw [hsys] at hC3
    have C3 := Lib.hid hC3
    clear hC3 hsys
    go_enter Try.func5, Try.ntmps5
    go_wp2_with fail
    refine (C3.out _).mono ?_
    rintro e w1 ⟨rfl, rfl⟩
    go_wp2_with fail
    refine (answers12_c _).mono ?_
    rintro e w2 ⟨rfl, hb2⟩
    have B2 := Lib.hid hb2
    clear hb2
    go_wp2
    go_ret
    exact ⟨rfl, B2.out⟩
  rw [hsys] at hC3
  have C3 := Lib.hid hC3
  clear hC3
  by_cases hbig : 500 < s.size
  · have hbi : (500 : Int) < (s.size : Int) := by omega
    clear hsys
    go_enter Try.func5, Try.ntmps5
    go_wp2_with fail
    refine (C3.out _).mono ?_
    rintro e w1 ⟨rfl, rfl⟩
    go_wp2_with fail
    refine (answers12_c _).mono ?_
    rintro e w2 ⟨rfl, hb2⟩
    have B2 := Lib.hid hb2
    clear hb2
    go_wp2
    go_ret
    exact ⟨rfl, B2.out⟩
  have hbi : decide ((500 : Int) < (s.size : Int)) = false := decide_eq_false (by omega)
  obtain ⟨Z, rfl, hZ⟩ := sysZ_nat hsys
  have HZ := Lib.hid hsys
  have CG := Lib.hid (fun W => digitGet_c Z s W hsys (by omega))
  have CR := Lib.hid (fun W => digitRun_c Z s W hsys (by omega))
  have CA := Lib.hid answers12_c
  have hsm : s.size ≤ 500 := by omega
  clear hsys hbig
  generalize hg : w.heap.size = g at *
  have Hg := Lib.hid hg
  clear hg
  have B0 := Lib.hid (show Below g w w by rw [← Hg.out]; exact Below.refl _ _)
  go_enter Try.func5, Try.ntmps5
  go_wp2_with fail
  refine (C3.out _).mono ?_
  rintro e w1 ⟨rfl, rfl⟩
  go_wp2
  go_loopw [5, 6, 7, 8] (fun v pv _ _ wr => ∃ (p : Nat) (cs : List Nat), UptoS Z s p cs ∧ pv = .int .i64 (p : Int) ∧ wr.ownsRow g 5 1 v cs.length (u8s (low Z cs)) ∧ Below g w wr) (fun _ pv _ _ _ => s.size - (intOf pv).toNat)
  case atStart => exact ⟨0, [], UptoS.zero Z s, rfl, World.ownsRow_nil _ _ _ _, B0.out⟩
  case round =>
    obtain ⟨p, cs, hu0, rfl, ho0, hb0⟩ := hrel
    have HU := Lib.hid hu0
    have HO := Lib.hid ho0
    have HB := Lib.hid hb0
    have hple := hu0.1.1
    have hcl := hu0.1.count
    have hgs : g ≤ wr.heap.size := by have := hb0.size; have := Hg.out; omega
    clear hu0 ho0 hb0
    by_cases hlt : p < s.size
    · have hez : (s.extract p s.size).size ≤ 1000000000000000 := by rw [ByteArray.size_extract]; omega
      have HC := Lib.hid (refFirst_c (s.extract p s.size) wr hez)
      rw [bts_from] at HC
      have hem : s.toList.isEmpty = false := by rw [isEmpty_bts]; exact decide_eq_false (by omega)
      rcases hf : fstN ((bts s).drop p) with _ | c
      · rw [fstP_none hf] at HC
        have hE := (HU.out.stop HZ.out (fun c hc => by rw [hf] at hc; cases hc)).2
        have hn := getS_no (Z := Z) (l := bts s) (by rw [hE, bts_length]; omega)
        rw [hn.1, hn.2] at CG
        rw [hE] at CR
        clear hE hn hf
        go_wp2_with fail
        refine HC.out.mono ?_
        rintro e w1 ⟨rfl, hb⟩
        have HB1 := Lib.hid (HB.out.trans (hb.mono hgs))
        clear hb HC
        go_wp2_with fail
        refine (CG.out _).mono ?_
        rintro e w2 ⟨rfl, hb⟩
        have HB2 := Lib.hid (HB1.out.trans (hb.mono (by have := HB1.out.size; have := Hg.out; omega)))
        clear hb
        go_wp2_with fail
        refine (CR.out _).mono ?_
        rintro e w3 ⟨rfl, hb⟩
        have HB3 := Lib.hid (HB2.out.trans (hb.mono (by have := HB2.out.size; have := Hg.out; omega)))
        clear hb
        go_wp2_with fail
        refine (CA.out _).mono ?_
        rintro e w4 ⟨rfl, hb⟩
        have HB4 := Lib.hid (HB3.out.trans (hb.mono (by have := HB3.out.size; have := Hg.out; omega)))
        clear hb
        go_wp2
        go_ret
        exact ⟨rfl, HB4.out⟩
      · obtain ⟨hc, hu1, _, hw1⟩ := HU.out.1.step hf
        rw [fstP_some hf] at HC
        have hple1 := hu1.1
        have hcle := isC_le hc
        have hnz : (((encN c).length : Int) == 0) = false := by rw [beq_eq_false_iff_ne]; omega
        have kw : IntKind.i32.wrap ((c : Int) - (Z : Int)) = (c : Int) - (Z : Int) := IntWalk.i32_in _ (by omega)
        clear hu1
        rcases hin : inS Z c with _ | _
        · by_cases hcz : (c : Int) < (Z : Int)
          · have hcz1 : decide (c < Z) = true := decide_eq_true (by omega)
            have hE := (HU.out.stop HZ.out (fun c' hc' => by rw [hf] at hc'; cases hc'; exact hin)).2
            have hn := getS_no (Z := Z) (l := bts s) (by rw [hE, bts_length]; omega)
            rw [hn.1, hn.2] at CG
            rw [hE] at CR
            clear hE hn hf hin
            go_wp2_with fail
            refine HC.out.mono ?_
            rintro e w1 ⟨rfl, hb⟩
            have HB1 := Lib.hid (HB.out.trans (hb.mono hgs))
            clear hb HC
            go_wp2_with fail
            refine (CG.out _).mono ?_
            rintro e w2 ⟨rfl, hb⟩
            have HB2 := Lib.hid (HB1.out.trans (hb.mono (by have := HB1.out.size; have := Hg.out; omega)))
            clear hb
            go_wp2_with fail
            refine (CR.out _).mono ?_
            rintro e w3 ⟨rfl, hb⟩
            have HB3 := Lib.hid (HB2.out.trans (hb.mono (by have := HB2.out.size; have := Hg.out; omega)))
            clear hb
            go_wp2_with fail
            refine (CA.out _).mono ?_
            rintro e w4 ⟨rfl, hb⟩
            have HB4 := Lib.hid (HB3.out.trans (hb.mono (by have := HB3.out.size; have := Hg.out; omega)))
            clear hb
            go_wp2
            go_ret
            exact ⟨rfl, HB4.out⟩
          · have hcz2 : decide ((10 : Int) ≤ (c : Int) - (Z : Int)) = true := decide_eq_true (by have := inS_no hin; omega)
            have hcz1 : decide (c < Z) = false := decide_eq_false (by omega)
            have hE := (HU.out.stop HZ.out (fun c' hc' => by rw [hf] at hc'; cases hc'; exact hin)).2
            have hn := getS_no (Z := Z) (l := bts s) (by rw [hE, bts_length]; omega)
            rw [hn.1, hn.2] at CG
            rw [hE] at CR
            clear hE hn hf hin
            go_wp2_with fail
            refine HC.out.mono ?_
            rintro e w1 ⟨rfl, hb⟩
            have HB1 := Lib.hid (HB.out.trans (hb.mono hgs))
            clear hb HC
            go_wp2_with fail
            refine (CG.out _).mono ?_
            rintro e w2 ⟨rfl, hb⟩
            have HB2 := Lib.hid (HB1.out.trans (hb.mono (by have := HB1.out.size; have := Hg.out; omega)))
            clear hb
            go_wp2_with fail
            refine (CR.out _).mono ?_
            rintro e w3 ⟨rfl, hb⟩
            have HB3 := Lib.hid (HB2.out.trans (hb.mono (by have := HB2.out.size; have := Hg.out; omega)))
            clear hb
            go_wp2_with fail
            refine (CA.out _).mono ?_
            rintro e w4 ⟨rfl, hb⟩
            have HB4 := Lib.hid (HB3.out.trans (hb.mono (by have := HB3.out.size; have := Hg.out; omega)))
            clear hb
            go_wp2
            go_ret
            exact ⟨rfl, HB4.out⟩
        · have HU1 := Lib.hid (HU.out.step hf hin)
          have hci := inS_iff.1 hin
          have hcz : decide (c < Z) = false := decide_eq_false (by omega)
          have hcz2 : decide ((10 : Int) ≤ (c : Int) - (Z : Int)) = false := decide_eq_false (by omega)
          have k1 : IntKind.i32.wrap (48 + (c : Int)) = 48 + (c : Int) := IntWalk.i32_in _ (by omega)
          have k2 : IntKind.i32.wrap (48 + (c : Int) - (Z : Int)) = 48 + (c : Int) - (Z : Int) := IntWalk.i32_in _ (by omega)
          have k3 : IntKind.u8.wrap (48 + (c : Int) - (Z : Int)) = 48 + (c : Int) - (Z : Int) := IntWalk.u8_in _ (by omega)
          clear hf hin
          generalize hL : (encN c).length = N at *
          go_wp2_with fail
          refine HC.out.mono ?_
          rintro e w1 ⟨rfl, hb⟩
          have HB1 := Lib.hid (HB.out.trans (hb.mono hgs))
          have HO1 := Lib.hid (own_kept HO.out hb rfl)
          have hgs1 : g ≤ w1.heap.size := by have := hb.size; omega
          clear hb HC
          go_wp2_with (at_builtin; go_must (refine wpList_app_u8k rfl (.tmp 48) (.tmp 54) _ rfl Try.underlying31 g u5 cs.length (low Z cs) rfl HO1.out _ rfl (c - Z + 48) (by omega) (by omega) HB1.out hgs1 ?_))
          intro v' w' ho1 hb1 _
          go_wp2
          go_roundw
          case rel =>
            refine ⟨_, _, HU1.out, by go_num, ?_, hb1.out⟩
            rw [low_append, List.length_append]; exact ho1.out
          case measure => simp [intOf]; omega
    · have hE := HU.out.end_ HZ.out hlt
      have hps : p = s.size := hE.2.2.2
      subst hps
      by_cases he : s.size = 0
      · have hem : s.toList.isEmpty = true := by rw [isEmpty_bts]; exact decide_eq_true he
        have hn := getS_no (Z := Z) (l := bts s) (by rw [bts_length]; omega)
        rw [hn.1, hn.2] at CG
        rw [hE.2.1] at CR
        clear hE hn
        go_wp2_with fail
        refine (CG.out _).mono ?_
        rintro e w2 ⟨rfl, hb⟩
        have HB2 := Lib.hid (HB.out.trans (hb.mono hgs))
        clear hb
        go_wp2_with fail
        refine (CR.out _).mono ?_
        rintro e w3 ⟨rfl, hb⟩
        have HB3 := Lib.hid (HB2.out.trans (hb.mono (by have := HB2.out.size; have := Hg.out; omega)))
        clear hb
        go_wp2_with fail
        refine (CA.out _).mono ?_
        rintro e w4 ⟨rfl, hb⟩
        have HB4 := Lib.hid (HB3.out.trans (hb.mono (by have := HB3.out.size; have := Hg.out; omega)))
        clear hb
        go_wp2
        go_ret
        exact ⟨rfl, HB4.out⟩
      · have hem : s.toList.isEmpty = false := by rw [isEmpty_bts]; exact decide_eq_false he
        have hc : 0 < (bts s).length ∧ runN Z (bts s) = (bts s).length := by rw [bts_length]; exact ⟨by omega, hE.2.1⟩
        rw [show getS Z (bts s) = stz (low Z cs) by rw [getS, if_pos hc, hE.2.2.1], show getB Z (bts s) = true from decide_eq_true hc] at CG
        rw [hE.2.1] at CR
        have HLT := Lib.hid (low_lt HU.out.2)
        clear hE hc
        go_wp2_with fail
        refine (CG.out _).mono ?_
        rintro e w2 ⟨rfl, hb⟩
        have HB2 := Lib.hid (HB.out.trans (hb.mono hgs))
        have HO2 := Lib.hid (own_kept HO.out hb rfl)
        clear hb
        go_wp2_with fail
        refine (CR.out _).mono ?_
        rintro e w3 ⟨rfl, hb⟩
        have HB3 := Lib.hid (HB2.out.trans (hb.mono (by have := HB2.out.size; have := Hg.out; omega)))
        have HO3 := Lib.hid (own_kept HO2.out hb rfl)
        clear hb
        go_wp2_with fail
        refine (CA.out _).mono ?_
        rintro e w4 ⟨rfl, hb⟩
        have HB4 := Lib.hid (HB3.out.trans (hb.mono (by have := HB3.out.size; have := Hg.out; omega)))
        have hcv := conv_own_stz (own_kept HO3.out hb rfl) HLT.out
        clear hb
        go_wp2
        go_ret
        exact ⟨by simp, HB4.out⟩
end Go.Proofs.Ytfppieafdkdheaa
