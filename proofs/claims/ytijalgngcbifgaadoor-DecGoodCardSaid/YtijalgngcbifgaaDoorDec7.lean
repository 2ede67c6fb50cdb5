/-
  Dec7: the law's own example.
-/
import Derived.Test.YtijalgngcbifgaaDoorDec6
namespace Go.Proofs.YtijalgngcbifgaaDoor
open Go.RowKit
theorem ex_isD : IsD ⟨#[48, 49, 50, 48]⟩ [0, 1, 2, 0] := ⟨rfl, by decide⟩
theorem ex_da : DA 1000 ⟨#[48, 49, 50, 48]⟩ 2 120 := ⟨⟨_, ex_isD, rfl⟩, by decide, by decide, by omega, by omega⟩
theorem ex_one : DA 1000 ⟨#[49]⟩ 0 1 := ⟨⟨[1], ⟨rfl, by decide⟩, rfl⟩, by decide, by decide, by omega, by omega⟩
theorem ex_tz : tz10 120 = 1 := by rw [tz10_step (by omega) rfl, tz10_none (by omega)]
theorem ex_nq : nq 120 = 12 := by rw [nq, ex_tz]
theorem ex_decs12 : decs 12 = [1, 2] := by
  rw [decs_snoc (by omega), decs_snoc (show 12 / 10 ≠ 0 by omega), decs_zero]; rfl
theorem ex_decs120 : (decs 120).length = 3 := by
  rw [decs_snoc (by omega), decs_snoc (show 120 / 10 ≠ 0 by omega), decs_snoc (show 120 / 10 / 10 ≠ 0 by omega), decs_zero]; rfl
theorem ex_nstr : nstr 120 = ⟨#[49, 50]⟩ := by rw [nstr, ex_nq, ex_decs12]; rfl
theorem ex_nexp : nexp 120 2 = 3 := by rw [nexp, if_neg (by omega), ex_tz]; rfl
theorem ex_top : dtop 120 2 = 4 := by rw [dtop, if_neg (by omega), ex_decs120]; rfl
theorem ex_digit : (digAt 120 2 3 : Int) = 2 := rfl
theorem ex_ranged : rangedB 120 2 = true := by rw [rangedB, ex_nexp, ex_top]; rfl
theorem ex_good : goodB ⟨#[48, 49, 50, 48]⟩ 2 = true := by decide
theorem ex_cmp : cmpV false 120 2 false 1 0 = 1 := by decide
set_option maxHeartbeats 1600000 in
set_option maxRecDepth 100000 in
theorem answers05_c (w : World) (hP : Pw w) :
    Calls Tryd.prog 11 #[] w fun r w' => r = .returned (.bool true) ∧ Below w.heap.size w w' := by
  have HN := Lib.hid (fun w hP => decNorm_c 1000 false _ _ _ w ex_da (by omega) hP)
  rw [ex_nstr, ex_nexp] at HN
  have HT := Lib.hid (fun w hP => decTop_c 1000 false _ _ _ w ex_da (by omega) hP)
  rw [ex_top] at HT
  have HD := Lib.hid (fun w hP => decDigit_c 1000 false _ _ _ 3 w ex_da (by omega) hP)
  rw [ex_digit] at HD
  have HG := Lib.hid (fun w hP => decGood_c false _ 2 w (show ByteArray.size ⟨#[48, 49, 50, 48]⟩ ≤ maxLen by decide) hP)
  rw [ex_good] at HG
  have HZ := Lib.hid (fun w hP => decZero_c 1000 false _ _ _ w ex_da hP)
  rw [decide_eq_false (show ¬ 120 = 0 by omega)] at HZ
  have HR := Lib.hid (fun w hP => decRanged_c 1000 false _ _ _ w ex_da (by omega) hP)
  rw [ex_ranged] at HR
  have HC := Lib.hid (fun w hP => decCmp_c 1000 false false _ _ _ _ _ _ w ex_da ex_one (by omega) hP)
  rw [ex_cmp] at HC
  have HK := Lib.hid (kept_one w (.bool false) (.string ⟨#[48, 49, 50, 48]⟩) (.int .i64 2) 23 hP)
  clear hP
  go_enter Tryd.func11, Tryd.ntmps11
  go_wp2_with fail
  refine (HN.out _ HK.out.1).mono ?_
  rintro r w1 ⟨rfl, hb⟩
  have hk := HK.out.keep hb
  obtain ⟨c0, c1, c2, -, -, -, -⟩ := hk.one
  replace HK := Lib.hid hk
  clear hb hk HN
  go_wp2_with fail
  refine (HT.out _ HK.out.1).mono ?_
  rintro r w2 ⟨rfl, hb⟩
  clear c0 c1 c2
  have hk := HK.out.keep hb
  obtain ⟨c0, c1, c2, -, -, -, -⟩ := hk.one
  replace HK := Lib.hid hk
  clear hb hk HT
  go_wp2_with fail
  refine (HD.out _ HK.out.1).mono ?_
  rintro r w3 ⟨rfl, hb⟩
  clear c0 c1 c2
  have hk := HK.out.keep hb
  obtain ⟨c0, c1, c2, -, -, -, -⟩ := hk.one
  replace HK := Lib.hid hk
  clear hb hk HD
  go_wp2_with fail
  refine (HG.out _ HK.out.1).mono ?_
  rintro r w4 ⟨rfl, hb⟩
  clear c0 c1 c2
  have hk := HK.out.keep hb
  obtain ⟨c0, c1, c2, -, -, -, -⟩ := hk.one
  replace HK := Lib.hid hk
  clear hb hk HG
  go_wp2_with fail
  refine (HZ.out _ HK.out.1).mono ?_
  rintro r w5 ⟨rfl, hb⟩
  clear c0 c1 c2
  have hk := HK.out.keep hb
  obtain ⟨c0, c1, c2, -, -, -, -⟩ := hk.one
  replace HK := Lib.hid hk
  clear hb hk HZ
  go_wp2_with fail
  refine (HR.out _ HK.out.1).mono ?_
  rintro r w6 ⟨rfl, hb⟩
  clear c0 c1 c2
  have hk := HK.out.keep hb
  obtain ⟨c0, c1, c2, -, -, -, -⟩ := hk.one
  replace HK := Lib.hid hk
  clear hb hk HR
  go_wp2_with fail
  refine (HC.out _ HK.out.1).mono ?_
  rintro r w7 ⟨rfl, hb⟩
  clear c0 c1 c2
  replace HK := Lib.hid (HK.out.keep hb)
  clear hb HC
  go_wp2
  go_ret
  exact ⟨rfl, HK.out.2.1⟩
end Go.Proofs.YtijalgngcbifgaaDoor
