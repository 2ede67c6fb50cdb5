/-
  DivBack: the walk.
-/
import Derived.Test.YtmfcjjjkndfojaaGood03
import Derived.Test.YtmfcjjjkndfojaaAns03
import Derived.Test.YtmfcjjjkndfojaaRefG
import Derived.Test.YtmfcjjjkndfojaaRefH
import Derived.Test.YtmfcjjjkndfojaaRefI
namespace Go.Proofs.Ytmfcjjjkndfojaa
open Go.RowKit
set_option maxHeartbeats 2000000 in
set_option maxRecDepth 100000 in
theorem walk_divBack (a0 : Option Addr) (n0 c0 : Nat) (x0 : List Nat) (a1 : Option Addr) (n1 c1 : Nat) (x1 : List Nat) (a2 : Option Addr) (n2 c2 : Nat) (x2 : List Nat) (w : World) (h0 : Limbs w a0 n0 x0) (h1 : Limbs w a1 n1 x1) (h2 : Limbs w a2 n2 x2) :
    Calls Try.prog 5 #[.slice a0 n0 c0, .slice a1 n1 c1, .slice a2 n2 c2] w fun e w' => e = .returned (.bool true) ∧ Below w.heap.size w w' := by
  have B := Lib.hid (Below.refl w.heap.size w)
  have H0 := Lib.hid h0
  clear h0
  have H1 := Lib.hid h1
  clear h1
  have H2 := Lib.hid h2
  clear h2
  go_enter Try.func5, Try.ntmps5
  go_wp2_with fail
  refine (text_any a1 n1 c1 x1 _ H1.out).mono ?_
  rintro e w1 ⟨tx, rfl, hs, hb⟩
  have Stx := Lib.hid (hs)
  replace H0 := Lib.hid (H0.out.below hb)
  replace H1 := Lib.hid (H1.out.below hb)
  replace H2 := Lib.hid (H2.out.below hb)
  replace B := Lib.hid (B.out.trans (hb.mono B.out.size))
  clear hb hs
  go_wp2_with fail
  refine (text_any a2 n2 c2 x2 _ H2.out).mono ?_
  rintro e w2 ⟨ty, rfl, hs, hb⟩
  have Sty := Lib.hid (hs)
  replace H0 := Lib.hid (H0.out.below hb)
  replace H1 := Lib.hid (H1.out.below hb)
  replace H2 := Lib.hid (H2.out.below hb)
  replace B := Lib.hid (B.out.trans (hb.mono B.out.size))
  clear hb hs
  have CG := good03_3_c a0 a1 a2 n0 c0 n1 c1 n2 c2 x0 x1 x2 w2 H0.out H1.out H2.out
  have hbA := (Below.refl (w2).heap.size w2).alloc (Nat.le_refl _) (.cells #[.slice a0 n0 c0, .slice a1 n1 c1, .slice a2 n2 c2] 22)
  replace H0 := Lib.hid (H0.out.below hbA)
  replace H1 := Lib.hid (H1.out.below hbA)
  replace H2 := Lib.hid (H2.out.below hbA)
  replace B := Lib.hid (B.out.trans (hbA.mono B.out.size))
  clear hbA
  rcases hg : (Arg.mk a0 n0 c0 x0).fineL 20 && ((Arg.mk a1 n1 c1 x1).fineL 20 && (Arg.mk a2 n2 c2 x2).fineL 20) with _ | _
  · rw [hg] at CG
    have HCG := Lib.hid CG
    clear CG hg
    go_wp2_with fail
    refine (HCG.out).mono ?_
    rintro e W ⟨rfl, rfl⟩
    clear HCG
    go_wp2_with fail
    refine (answers03_c _).mono ?_
    rintro e w3 ⟨rfl, hb⟩
    replace H0 := Lib.hid (H0.out.below hb)
    replace H1 := Lib.hid (H1.out.below hb)
    replace H2 := Lib.hid (H2.out.below hb)
    replace B := Lib.hid (B.out.trans (hb.mono B.out.size))
    clear hb 
    go_wp2
    go_ret
    exact ⟨rfl, B.out⟩
  · rw [hg] at CG
    have HCG := Lib.hid CG
    clear CG
    try simp only [Bool.and_eq_true] at hg
    have F0 := Arg.fineL_true hg.1
    simp only at F0
    have hn0 := F0.1
    have G0 := Lib.hid F0.2
    have V0 := Lib.hid (limbs_lt F0.2 (m := 20) (by rw [H0.out.len]; exact hn0))
    have F1 := Arg.fineL_true hg.2.1
    simp only at F1
    have hn1 := F1.1
    have G1 := Lib.hid F1.2
    have V1 := Lib.hid (limbs_lt F1.2 (m := 20) (by rw [H1.out.len]; exact hn1))
    have F2 := Arg.fineL_true hg.2.2
    simp only at F2
    have hn2 := F2.1
    have G2 := Lib.hid F2.2
    have V2 := Lib.hid (limbs_lt F2.2 (m := 20) (by rw [H2.out.len]; exact hn2))
    clear hg F0 F1 F2
    go_wp2_with fail
    refine (HCG.out).mono ?_
    rintro e W ⟨rfl, rfl⟩
    clear HCG
    replace Stx := Lib.hid (map_mod_id G1.out ▸ Stx.out)
    replace Sty := Lib.hid (map_mod_id G2.out ▸ Sty.out)
    have ztx : tx.size ≤ 100000000 := by rw [Stx.out.size]; exact Nat.le_trans (decs_len (V1.out)) (by omega)
    have zty : ty.size ≤ 100000000 := by rw [Sty.out.size]; exact Nat.le_trans (decs_len (V2.out)) (by omega)
    have CL := fun W => less_c ty tx _ _ W Sty.out Stx.out
    by_cases hlt : val 1000000000 x2 < val 1000000000 x1
    · rw [decide_eq_true hlt] at CL
      have HCL := Lib.hid CL
      have HLT := Lib.hid hlt
      clear CL hlt
      go_wp2_with fail
      refine (HCL.out _).mono ?_
      rintro e W ⟨rfl, rfl⟩
      clear HCL
      go_wp2_with fail
      refine (text_c a0 n0 c0 x0 _ H0.out G0.out (by omega)).mono ?_
      rintro e w3 ⟨s1, rfl, hs, hb⟩
      try simp only [val_digs 1000000000 (by omega)] at hs
      have Ss1 := Lib.hid (hs)
      replace H0 := Lib.hid (H0.out.below hb)
      replace H1 := Lib.hid (H1.out.below hb)
      replace H2 := Lib.hid (H2.out.below hb)
      replace B := Lib.hid (B.out.trans (hb.mono B.out.size))
      clear hb hs
      have zs1 : s1.size ≤ 100000000 := by rw [Ss1.out.size]; exact Nat.le_trans (decs_len (V0.out)) (by omega)
      go_wp2_with fail
      refine (times_c s1 tx _ _ _ Ss1.out Stx.out zs1 ztx).mono ?_
      rintro e w4 ⟨s2, rfl, hs, hb⟩
      rw [dval_decs, dval_decs] at hs
      have Ss2 := Lib.hid (hs)
      replace H0 := Lib.hid (H0.out.below hb)
      replace H1 := Lib.hid (H1.out.below hb)
      replace H2 := Lib.hid (H2.out.below hb)
      replace B := Lib.hid (B.out.trans (hb.mono B.out.size))
      clear hb hs
      have zs2 : s2.size ≤ 100000000 := by rw [Ss2.out.size]; exact Nat.le_trans (decs_len ((mul_lt_pow V0.out V1.out))) (by omega)
      go_wp2_with fail
      refine (plus_c s2 ty _ _ _ Ss2.out Sty.out zs2 zty).mono ?_
      rintro e w5 ⟨s3, rfl, hs, hb⟩
      rw [dval_decs, dval_decs] at hs
      have Ss3 := Lib.hid (hs)
      replace H0 := Lib.hid (H0.out.below hb)
      replace H1 := Lib.hid (H1.out.below hb)
      replace H2 := Lib.hid (H2.out.below hb)
      replace B := Lib.hid (B.out.trans (hb.mono B.out.size))
      clear hb hs
      have zs3 : s3.size ≤ 100000000 := by rw [Ss3.out.size]; exact Nat.le_trans (decs_len ((sum_lt2 (mul_lt_pow V0.out V1.out) V2.out))) (by omega)
      go_wp2_with fail
      refine (number_c s3 _ _ Ss3.out zs3).mono ?_
      rintro e w6 ⟨Ap4, mp4, cp4, rfl, ho, hb⟩
      try simp only [val_digs 1000000000 (by omega)] at ho
      try rw [dval_decs] at ho
      have Op4 := Lib.hid (ho.limbs)
      have Lp4 := Lib.hid (ho.len)
      replace H0 := Lib.hid (H0.out.below hb)
      replace H1 := Lib.hid (H1.out.below hb)
      replace H2 := Lib.hid (H2.out.below hb)
      replace B := Lib.hid (B.out.trans (hb.mono B.out.size))
      clear hb ho
      have Kp4 : mp4 ≤ 541 := by rw [← Lp4.out]; exact Nat.le_trans (digs_len9 ((sum_lt2 (mul_lt_pow V0.out V1.out) V2.out))) (by omega)
      have HPOS := Lib.hid (show 0 < val 1000000000 x1 by have := HLT.out; omega)
      go_wp2_with fail
      refine (divMod_c Ap4 a1 mp4 cp4 n1 c1 _ x1 _ Op4.out H1.out (digs_lt 1000000000 (by omega) _) G1.out (by omega) (by omega) HPOS.out).mono ?_
      rintro e w7 ⟨Ap5, mp5, cp5, Ap6, mp6, cp6, rfl, ho, ho2, hb⟩
      try simp only [val_digs 1000000000 (by omega)] at ho ho2
      have Op5 := Lib.hid (ho.limbs)
      have Lp5 := Lib.hid (ho.len)
      have Op6 := Lib.hid (ho2.limbs)
      have Lp6 := Lib.hid (ho2.len)
      replace H0 := Lib.hid (H0.out.below hb)
      replace H1 := Lib.hid (H1.out.below hb)
      replace H2 := Lib.hid (H2.out.below hb)
      replace Op4 := Lib.hid (Op4.out.below hb)
      replace B := Lib.hid (B.out.trans (hb.mono B.out.size))
      clear hb ho ho2
      have Kp5 : mp5 ≤ 541 := by rw [← Lp5.out]; exact Nat.le_trans (digs_len9 ((Nat.lt_of_le_of_lt (Nat.div_le_self _ _) (sum_lt2 (mul_lt_pow V0.out V1.out) V2.out)))) (by omega)
      have Kp6 : mp6 ≤ 541 := by rw [← Lp6.out]; exact Nat.le_trans (digs_len9 ((Nat.lt_of_le_of_lt (Nat.mod_le _ _) (sum_lt2 (mul_lt_pow V0.out V1.out) V2.out)))) (by omega)
      go_wp2_with fail
      refine (answers03_c _).mono ?_
      rintro e w8 ⟨rfl, hb⟩
      replace H0 := Lib.hid (H0.out.below hb)
      replace H1 := Lib.hid (H1.out.below hb)
      replace H2 := Lib.hid (H2.out.below hb)
      replace Op4 := Lib.hid (Op4.out.below hb)
      replace Op5 := Lib.hid (Op5.out.below hb)
      replace Op6 := Lib.hid (Op6.out.below hb)
      replace B := Lib.hid (B.out.trans (hb.mono B.out.size))
      clear hb 
      go_wp2_with fail
      refine (text_c Ap5 mp5 cp5 _ _ Op5.out (digs_lt 1000000000 (by omega) _) (by omega)).mono ?_
      rintro e w9 ⟨s7, rfl, hs, hb⟩
      try simp only [val_digs 1000000000 (by omega)] at hs
      have Ss7 := Lib.hid (hs)
      replace H0 := Lib.hid (H0.out.below hb)
      replace H1 := Lib.hid (H1.out.below hb)
      replace H2 := Lib.hid (H2.out.below hb)
      replace Op4 := Lib.hid (Op4.out.below hb)
      replace Op5 := Lib.hid (Op5.out.below hb)
      replace Op6 := Lib.hid (Op6.out.below hb)
      replace B := Lib.hid (B.out.trans (hb.mono B.out.size))
      clear hb hs
      have zs7 : s7.size ≤ 100000000 := by rw [Ss7.out.size]; exact Nat.le_trans (decs_len ((Nat.lt_of_le_of_lt (Nat.div_le_self _ _) (sum_lt2 (mul_lt_pow V0.out V1.out) V2.out)))) (by omega)
      go_wp2_with fail
      refine (text_c a0 n0 c0 x0 _ H0.out G0.out (by omega)).mono ?_
      rintro e w10 ⟨s8, rfl, hs, hb⟩
      try simp only [val_digs 1000000000 (by omega)] at hs
      have Ss8 := Lib.hid (hs)
      replace H0 := Lib.hid (H0.out.below hb)
      replace H1 := Lib.hid (H1.out.below hb)
      replace H2 := Lib.hid (H2.out.below hb)
      replace Op4 := Lib.hid (Op4.out.below hb)
      replace Op5 := Lib.hid (Op5.out.below hb)
      replace Op6 := Lib.hid (Op6.out.below hb)
      replace B := Lib.hid (B.out.trans (hb.mono B.out.size))
      clear hb hs
      have zs8 : s8.size ≤ 100000000 := by rw [Ss8.out.size]; exact Nat.le_trans (decs_len (V0.out)) (by omega)
      have hq : (val 1000000000 x0 * val 1000000000 x1 + val 1000000000 x2) / val 1000000000 x1 = val 1000000000 x0 := by rw [Nat.mul_comm, Nat.mul_add_div HPOS.out, Nat.div_eq_of_lt HLT.out, Nat.add_zero]
      obtain rfl : s7 = s8 := IsD.ext (by have h := Ss7.out; rw [hq] at h; exact h) Ss8.out
      clear hq
      clear Op5 Lp5 Kp5
      go_wp2_with fail
      refine (text_c Ap6 mp6 cp6 _ _ Op6.out (digs_lt 1000000000 (by omega) _) (by omega)).mono ?_
      rintro e w11 ⟨s9, rfl, hs, hb⟩
      try simp only [val_digs 1000000000 (by omega)] at hs
      have Ss9 := Lib.hid (hs)
      replace H0 := Lib.hid (H0.out.below hb)
      replace H1 := Lib.hid (H1.out.below hb)
      replace H2 := Lib.hid (H2.out.below hb)
      replace Op4 := Lib.hid (Op4.out.below hb)
      replace Op6 := Lib.hid (Op6.out.below hb)
      replace B := Lib.hid (B.out.trans (hb.mono B.out.size))
      clear hb hs
      have zs9 : s9.size ≤ 100000000 := by rw [Ss9.out.size]; exact Nat.le_trans (decs_len ((Nat.lt_of_le_of_lt (Nat.mod_le _ _) (sum_lt2 (mul_lt_pow V0.out V1.out) V2.out)))) (by omega)
      have hr : (val 1000000000 x0 * val 1000000000 x1 + val 1000000000 x2) % val 1000000000 x1 = val 1000000000 x2 := by rw [Nat.mul_comm, Nat.mul_add_mod, Nat.mod_eq_of_lt HLT.out]
      obtain rfl : s9 = ty := IsD.ext (by have h := Ss9.out; rw [hr] at h; exact h) Sty.out
      clear hr
      go_wp2
      go_ret
      exact ⟨rfl, B.out⟩
    · rw [decide_eq_false hlt] at CL
      have HCL := Lib.hid CL
      clear CL
      go_wp2_with fail
      refine (HCL.out _).mono ?_
      rintro e W ⟨rfl, rfl⟩
      clear HCL
      go_wp2_with fail
      refine (answers03_c _).mono ?_
      rintro e w3 ⟨rfl, hb⟩
      replace H0 := Lib.hid (H0.out.below hb)
      replace H1 := Lib.hid (H1.out.below hb)
      replace H2 := Lib.hid (H2.out.below hb)
      replace B := Lib.hid (B.out.trans (hb.mono B.out.size))
      clear hb 
      go_wp2
      go_ret
      exact ⟨rfl, B.out⟩
end Go.Proofs.Ytmfcjjjkndfojaa
