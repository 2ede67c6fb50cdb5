/-
  MulLaws: the walk.
-/
import Derived.Test.YthddeiadcecggaaGood02
import Derived.Test.YthddeiadcecggaaAns02
import Derived.Test.YthddeiadcecggaaRefG
namespace Go.Proofs.Ythddeiadcecggaa
open Go.RowKit
set_option maxHeartbeats 2000000 in
set_option maxRecDepth 100000 in
theorem walk_mulLaws (a0 : Option Addr) (n0 c0 : Nat) (x0 : List Nat) (a1 : Option Addr) (n1 c1 : Nat) (x1 : List Nat) (a2 : Option Addr) (n2 c2 : Nat) (x2 : List Nat) (w : World) (h0 : Limbs w a0 n0 x0) (h1 : Limbs w a1 n1 x1) (h2 : Limbs w a2 n2 x2) :
    Calls Try.prog 5 #[.slice a0 n0 c0, .slice a1 n1 c1, .slice a2 n2 c2] w fun e w' => e = .returned (.bool true) ∧ Below w.heap.size w w' := by
  have B := Lib.hid (Below.refl w.heap.size w)
  have H0 := Lib.hid h0
  clear h0
  have H1 := Lib.hid h1
  clear h1
  have H2 := Lib.hid h2
  clear h2
  have CG := good02_3_c a0 a1 a2 n0 c0 n1 c1 n2 c2 x0 x1 x2 w H0.out H1.out H2.out
  try simp only [World.size_alloc] at CG
  have hbA := (Below.refl (w).heap.size w).alloc (Nat.le_refl _) (.cells #[.slice a0 n0 c0, .slice a1 n1 c1, .slice a2 n2 c2] 22)
  replace H0 := Lib.hid (H0.out.below hbA)
  replace H1 := Lib.hid (H1.out.below hbA)
  replace H2 := Lib.hid (H2.out.below hbA)
  replace B := Lib.hid (B.out.trans (hbA.mono B.out.size))
  clear hbA
  rcases hg : (Arg.mk a0 n0 c0 x0).fineL 30 && ((Arg.mk a1 n1 c1 x1).fineL 30 && (Arg.mk a2 n2 c2 x2).fineL 30) with _ | _
  · rw [hg] at CG
    have HCG := Lib.hid CG
    clear CG hg
    go_enter Try.func5, Try.ntmps5
    go_wp2_with fail
    refine (HCG.out).mono ?_
    rintro e W ⟨rfl, rfl⟩
    clear HCG
    go_wp2_with fail
    refine (answers02_c _).mono ?_
    rintro e w1 ⟨rfl, hb⟩
    replace H0 := Lib.hid (H0.out.below hb)
    replace H1 := Lib.hid (H1.out.below hb)
    replace H2 := Lib.hid (H2.out.below hb)
    replace B := Lib.hid (B.out.trans (hb.mono B.out.size))
    clear hb 
    go_wp2
    go_ret
    exact ⟨rfl, B.out⟩
  · rw [hg] at CG
    have HCG := Lib.hid CG
    clear CG
    try simp only [Bool.and_eq_true] at hg
    have F0 := Arg.fineL_true hg.1
    simp only at F0
    have hn0 := F0.1
    have G0 := Lib.hid F0.2
    have V0 := Lib.hid (limbs_lt F0.2 (m := 30) (by rw [H0.out.len]; exact hn0))
    have F1 := Arg.fineL_true hg.2.1
    simp only at F1
    have hn1 := F1.1
    have G1 := Lib.hid F1.2
    have V1 := Lib.hid (limbs_lt F1.2 (m := 30) (by rw [H1.out.len]; exact hn1))
    have F2 := Arg.fineL_true hg.2.2
    simp only at F2
    have hn2 := F2.1
    have G2 := Lib.hid F2.2
    have V2 := Lib.hid (limbs_lt F2.2 (m := 30) (by rw [H2.out.len]; exact hn2))
    clear hg F0 F1 F2
    go_enter Try.func5, Try.ntmps5
    go_wp2_with fail
    refine (HCG.out).mono ?_
    rintro e W ⟨rfl, rfl⟩
    clear HCG
    go_wp2_with fail
    refine (text_c a1 n1 c1 x1 _ H1.out G1.out (by omega)).mono ?_
    rintro e w1 ⟨s1, rfl, hs, hb⟩
    try simp only [val_digs 1000000000 (by omega)] at hs
    have Ss1 := Lib.hid (hs)
    replace H0 := Lib.hid (H0.out.below hb)
    replace H1 := Lib.hid (H1.out.below hb)
    replace H2 := Lib.hid (H2.out.below hb)
    replace B := Lib.hid (B.out.trans (hb.mono B.out.size))
    clear hb hs
    have zs1 : s1.size ≤ 100000000 := by rw [Ss1.out.size]; exact Nat.le_trans (decs_len (V1.out)) (by omega)
    go_wp2_with fail
    refine (text_c a2 n2 c2 x2 _ H2.out G2.out (by omega)).mono ?_
    rintro e w2 ⟨s2, rfl, hs, hb⟩
    try simp only [val_digs 1000000000 (by omega)] at hs
    have Ss2 := Lib.hid (hs)
    replace H0 := Lib.hid (H0.out.below hb)
    replace H1 := Lib.hid (H1.out.below hb)
    replace H2 := Lib.hid (H2.out.below hb)
    replace B := Lib.hid (B.out.trans (hb.mono B.out.size))
    clear hb hs
    have zs2 : s2.size ≤ 100000000 := by rw [Ss2.out.size]; exact Nat.le_trans (decs_len (V2.out)) (by omega)
    go_wp2_with fail
    refine (plus_c s1 s2 _ _ _ Ss1.out Ss2.out zs1 zs2).mono ?_
    rintro e w3 ⟨s3, rfl, hs, hb⟩
    rw [dval_decs, dval_decs] at hs
    have Ss3 := Lib.hid (hs)
    replace H0 := Lib.hid (H0.out.below hb)
    replace H1 := Lib.hid (H1.out.below hb)
    replace H2 := Lib.hid (H2.out.below hb)
    replace B := Lib.hid (B.out.trans (hb.mono B.out.size))
    clear hb hs
    have zs3 : s3.size ≤ 100000000 := by rw [Ss3.out.size]; exact Nat.le_trans (decs_len ((sum_lt2 V1.out V2.out))) (by omega)
    go_wp2_with fail
    refine (number_c s3 _ _ Ss3.out zs3).mono ?_
    rintro e w4 ⟨Ap4, mp4, cp4, rfl, ho, hb⟩
    try simp only [val_digs 1000000000 (by omega)] at ho
    try rw [dval_decs] at ho
    have Op4 := Lib.hid (ho.limbs)
    have Lp4 := Lib.hid (ho.len)
    replace H0 := Lib.hid (H0.out.below hb)
    replace H1 := Lib.hid (H1.out.below hb)
    replace H2 := Lib.hid (H2.out.below hb)
    replace B := Lib.hid (B.out.trans (hb.mono B.out.size))
    clear hb ho
    have Kp4 : mp4 ≤ 541 := by rw [← Lp4.out]; exact Nat.le_trans (digs_len9 ((sum_lt2 V1.out V2.out))) (by omega)
    go_wp2_with fail
    refine (mul_c a0 a1 n0 c0 n1 c1 x0 x1 _ H0.out H1.out G0.out G1.out (by omega) (by omega)).mono ?_
    rintro e w5 ⟨Ap5, mp5, cp5, rfl, ho, hb⟩
    try simp only [val_digs 1000000000 (by omega)] at ho
    have Op5 := Lib.hid (ho.limbs)
    have Lp5 := Lib.hid (ho.len)
    replace H0 := Lib.hid (H0.out.below hb)
    replace H1 := Lib.hid (H1.out.below hb)
    replace H2 := Lib.hid (H2.out.below hb)
    replace Op4 := Lib.hid (Op4.out.below hb)
    replace B := Lib.hid (B.out.trans (hb.mono B.out.size))
    clear hb ho
    have Kp5 : mp5 ≤ 540 := by rw [← Lp5.out]; exact Nat.le_trans (digs_len9 ((mul_lt_pow V0.out V1.out))) (by omega)
    go_wp2_with fail
    refine (text_c Ap5 mp5 cp5 _ _ Op5.out (digs_lt 1000000000 (by omega) _) (by omega)).mono ?_
    rintro e w6 ⟨s6, rfl, hs, hb⟩
    try simp only [val_digs 1000000000 (by omega)] at hs
    have Ss6 := Lib.hid (hs)
    replace H0 := Lib.hid (H0.out.below hb)
    replace H1 := Lib.hid (H1.out.below hb)
    replace H2 := Lib.hid (H2.out.below hb)
    replace Op4 := Lib.hid (Op4.out.below hb)
    replace Op5 := Lib.hid (Op5.out.below hb)
    replace B := Lib.hid (B.out.trans (hb.mono B.out.size))
    clear hb hs
    have zs6 : s6.size ≤ 100000000 := by rw [Ss6.out.size]; exact Nat.le_trans (decs_len ((mul_lt_pow V0.out V1.out))) (by omega)
    clear Op5 Lp5 Kp5
    go_wp2_with fail
    refine (mul_c a0 a2 n0 c0 n2 c2 x0 x2 _ H0.out H2.out G0.out G2.out (by omega) (by omega)).mono ?_
    rintro e w7 ⟨Ap7, mp7, cp7, rfl, ho, hb⟩
    try simp only [val_digs 1000000000 (by omega)] at ho
    have Op7 := Lib.hid (ho.limbs)
    have Lp7 := Lib.hid (ho.len)
    replace H0 := Lib.hid (H0.out.below hb)
    replace H1 := Lib.hid (H1.out.below hb)
    replace H2 := Lib.hid (H2.out.below hb)
    replace Op4 := Lib.hid (Op4.out.below hb)
    replace B := Lib.hid (B.out.trans (hb.mono B.out.size))
    clear hb ho
    have Kp7 : mp7 ≤ 540 := by rw [← Lp7.out]; exact Nat.le_trans (digs_len9 ((mul_lt_pow V0.out V2.out))) (by omega)
    go_wp2_with fail
    refine (text_c Ap7 mp7 cp7 _ _ Op7.out (digs_lt 1000000000 (by omega) _) (by omega)).mono ?_
    rintro e w8 ⟨s8, rfl, hs, hb⟩
    try simp only [val_digs 1000000000 (by omega)] at hs
    have Ss8 := Lib.hid (hs)
    replace H0 := Lib.hid (H0.out.below hb)
    replace H1 := Lib.hid (H1.out.below hb)
    replace H2 := Lib.hid (H2.out.below hb)
    replace Op4 := Lib.hid (Op4.out.below hb)
    replace Op7 := Lib.hid (Op7.out.below hb)
    replace B := Lib.hid (B.out.trans (hb.mono B.out.size))
    clear hb hs
    have zs8 : s8.size ≤ 100000000 := by rw [Ss8.out.size]; exact Nat.le_trans (decs_len ((mul_lt_pow V0.out V2.out))) (by omega)
    clear Op7 Lp7 Kp7
    go_wp2_with fail
    refine (plus_c s6 s8 _ _ _ Ss6.out Ss8.out zs6 zs8).mono ?_
    rintro e w9 ⟨s9, rfl, hs, hb⟩
    rw [dval_decs, dval_decs] at hs
    have Ss9 := Lib.hid (hs)
    replace H0 := Lib.hid (H0.out.below hb)
    replace H1 := Lib.hid (H1.out.below hb)
    replace H2 := Lib.hid (H2.out.below hb)
    replace Op4 := Lib.hid (Op4.out.below hb)
    replace B := Lib.hid (B.out.trans (hb.mono B.out.size))
    clear hb hs
    have zs9 : s9.size ≤ 100000000 := by rw [Ss9.out.size]; exact Nat.le_trans (decs_len ((sum_lt2 (mul_lt_pow V0.out V1.out) (mul_lt_pow V0.out V2.out)))) (by omega)
    go_wp2_with fail
    refine (answers02_c _).mono ?_
    rintro e w10 ⟨rfl, hb⟩
    replace H0 := Lib.hid (H0.out.below hb)
    replace H1 := Lib.hid (H1.out.below hb)
    replace H2 := Lib.hid (H2.out.below hb)
    replace Op4 := Lib.hid (Op4.out.below hb)
    replace B := Lib.hid (B.out.trans (hb.mono B.out.size))
    clear hb 
    go_wp2_with fail
    refine (mul_c a0 a1 n0 c0 n1 c1 x0 x1 _ H0.out H1.out G0.out G1.out (by omega) (by omega)).mono ?_
    rintro e w11 ⟨Ap10, mp10, cp10, rfl, ho, hb⟩
    try simp only [val_digs 1000000000 (by omega)] at ho
    have Op10 := Lib.hid (ho.limbs)
    have Lp10 := Lib.hid (ho.len)
    replace H0 := Lib.hid (H0.out.below hb)
    replace H1 := Lib.hid (H1.out.below hb)
    replace H2 := Lib.hid (H2.out.below hb)
    replace Op4 := Lib.hid (Op4.out.below hb)
    replace B := Lib.hid (B.out.trans (hb.mono B.out.size))
    clear hb ho
    have Kp10 : mp10 ≤ 540 := by rw [← Lp10.out]; exact Nat.le_trans (digs_len9 ((mul_lt_pow V0.out V1.out))) (by omega)
    go_wp2_with fail
    refine (mul_c a1 a0 n1 c1 n0 c0 x1 x0 _ H1.out H0.out G1.out G0.out (by omega) (by omega)).mono ?_
    rintro e w12 ⟨Ap11, mp11, cp11, rfl, ho, hb⟩
    try simp only [val_digs 1000000000 (by omega)] at ho
    have Op11 := Lib.hid (ho.limbs)
    have Lp11 := Lib.hid (ho.len)
    replace H0 := Lib.hid (H0.out.below hb)
    replace H1 := Lib.hid (H1.out.below hb)
    replace H2 := Lib.hid (H2.out.below hb)
    replace Op4 := Lib.hid (Op4.out.below hb)
    replace Op10 := Lib.hid (Op10.out.below hb)
    replace B := Lib.hid (B.out.trans (hb.mono B.out.size))
    clear hb ho
    have Kp11 : mp11 ≤ 540 := by rw [← Lp11.out]; exact Nat.le_trans (digs_len9 ((mul_lt_pow V1.out V0.out))) (by omega)
    go_wp2_with fail
    refine (same_c Ap10 Ap11 mp10 cp10 mp11 cp11 _ _ _ Op10.out Op11.out).mono ?_
    rw [decide_eq_true (congrArg (digs 1000000000) (Nat.mul_comm _ _))]
    rintro e w13 ⟨rfl, hb⟩
    replace H0 := Lib.hid (H0.out.below hb)
    replace H1 := Lib.hid (H1.out.below hb)
    replace H2 := Lib.hid (H2.out.below hb)
    replace Op4 := Lib.hid (Op4.out.below hb)
    replace Op10 := Lib.hid (Op10.out.below hb)
    replace Op11 := Lib.hid (Op11.out.below hb)
    replace B := Lib.hid (B.out.trans (hb.mono B.out.size))
    clear hb 
    clear Op10 Lp10 Kp10
    clear Op11 Lp11 Kp11
    go_wp2_with fail
    refine (mul_c a0 Ap4 n0 c0 mp4 cp4 x0 _ _ H0.out Op4.out G0.out (digs_lt 1000000000 (by omega) _) (by omega) (by omega)).mono ?_
    rintro e w14 ⟨Ap12, mp12, cp12, rfl, ho, hb⟩
    try simp only [val_digs 1000000000 (by omega)] at ho
    have Op12 := Lib.hid (ho.limbs)
    have Lp12 := Lib.hid (ho.len)
    replace H0 := Lib.hid (H0.out.below hb)
    replace H1 := Lib.hid (H1.out.below hb)
    replace H2 := Lib.hid (H2.out.below hb)
    replace Op4 := Lib.hid (Op4.out.below hb)
    replace B := Lib.hid (B.out.trans (hb.mono B.out.size))
    clear hb ho
    have Kp12 : mp12 ≤ 811 := by rw [← Lp12.out]; exact Nat.le_trans (digs_len9 ((mul_lt_pow V0.out (sum_lt2 V1.out V2.out)))) (by omega)
    clear Op4 Lp4 Kp4
    go_wp2_with fail
    refine (number_c s9 _ _ Ss9.out zs9).mono ?_
    rintro e w15 ⟨Ap13, mp13, cp13, rfl, ho, hb⟩
    try simp only [val_digs 1000000000 (by omega)] at ho
    try rw [dval_decs] at ho
    have Op13 := Lib.hid (ho.limbs)
    have Lp13 := Lib.hid (ho.len)
    replace H0 := Lib.hid (H0.out.below hb)
    replace H1 := Lib.hid (H1.out.below hb)
    replace H2 := Lib.hid (H2.out.below hb)
    replace Op12 := Lib.hid (Op12.out.below hb)
    replace B := Lib.hid (B.out.trans (hb.mono B.out.size))
    clear hb ho
    have Kp13 : mp13 ≤ 1081 := by rw [← Lp13.out]; exact Nat.le_trans (digs_len9 ((sum_lt2 (mul_lt_pow V0.out V1.out) (mul_lt_pow V0.out V2.out)))) (by omega)
    go_wp2_with fail
    refine (same_c Ap12 Ap13 mp12 cp12 mp13 cp13 _ _ _ Op12.out Op13.out).mono ?_
    rw [decide_eq_true (congrArg (digs 1000000000) (Nat.mul_add _ _ _))]
    rintro e w16 ⟨rfl, hb⟩
    replace H0 := Lib.hid (H0.out.below hb)
    replace H1 := Lib.hid (H1.out.below hb)
    replace H2 := Lib.hid (H2.out.below hb)
    replace Op12 := Lib.hid (Op12.out.below hb)
    replace Op13 := Lib.hid (Op13.out.below hb)
    replace B := Lib.hid (B.out.trans (hb.mono B.out.size))
    clear hb 
    clear Op12 Lp12 Kp12
    clear Op13 Lp13 Kp13
    go_wp2_with fail
    refine (mul_c a0 a1 n0 c0 n1 c1 x0 x1 _ H0.out H1.out G0.out G1.out (by omega) (by omega)).mono ?_
    rintro e w17 ⟨Ap14, mp14, cp14, rfl, ho, hb⟩
    try simp only [val_digs 1000000000 (by omega)] at ho
    have Op14 := Lib.hid (ho.limbs)
    have Lp14 := Lib.hid (ho.len)
    replace H0 := Lib.hid (H0.out.below hb)
    replace H1 := Lib.hid (H1.out.below hb)
    replace H2 := Lib.hid (H2.out.below hb)
    replace B := Lib.hid (B.out.trans (hb.mono B.out.size))
    clear hb ho
    have Kp14 : mp14 ≤ 540 := by rw [← Lp14.out]; exact Nat.le_trans (digs_len9 ((mul_lt_pow V0.out V1.out))) (by omega)
    go_wp2_with fail
    refine (mul_c Ap14 a2 mp14 cp14 n2 c2 _ x2 _ Op14.out H2.out (digs_lt 1000000000 (by omega) _) G2.out (by omega) (by omega)).mono ?_
    rintro e w18 ⟨Ap15, mp15, cp15, rfl, ho, hb⟩
    try simp only [val_digs 1000000000 (by omega)] at ho
    have Op15 := Lib.hid (ho.limbs)
    have Lp15 := Lib.hid (ho.len)
    replace H0 := Lib.hid (H0.out.below hb)
    replace H1 := Lib.hid (H1.out.below hb)
    replace H2 := Lib.hid (H2.out.below hb)
    replace Op14 := Lib.hid (Op14.out.below hb)
    replace B := Lib.hid (B.out.trans (hb.mono B.out.size))
    clear hb ho
    have Kp15 : mp15 ≤ 810 := by rw [← Lp15.out]; exact Nat.le_trans (digs_len9 ((mul_lt_pow (mul_lt_pow V0.out V1.out) V2.out))) (by omega)
    clear Op14 Lp14 Kp14
    go_wp2_with fail
    refine (mul_c a1 a2 n1 c1 n2 c2 x1 x2 _ H1.out H2.out G1.out G2.out (by omega) (by omega)).mono ?_
    rintro e w19 ⟨Ap16, mp16, cp16, rfl, ho, hb⟩
    try simp only [val_digs 1000000000 (by omega)] at ho
    have Op16 := Lib.hid (ho.limbs)
    have Lp16 := Lib.hid (ho.len)
    replace H0 := Lib.hid (H0.out.below hb)
    replace H1 := Lib.hid (H1.out.below hb)
    replace H2 := Lib.hid (H2.out.below hb)
    replace Op15 := Lib.hid (Op15.out.below hb)
    replace B := Lib.hid (B.out.trans (hb.mono B.out.size))
    clear hb ho
    have Kp16 : mp16 ≤ 540 := by rw [← Lp16.out]; exact Nat.le_trans (digs_len9 ((mul_lt_pow V1.out V2.out))) (by omega)
    go_wp2_with fail
    refine (mul_c a0 Ap16 n0 c0 mp16 cp16 x0 _ _ H0.out Op16.out G0.out (digs_lt 1000000000 (by omega) _) (by omega) (by omega)).mono ?_
    rintro e w20 ⟨Ap17, mp17, cp17, rfl, ho, hb⟩
    try simp only [val_digs 1000000000 (by omega)] at ho
    have Op17 := Lib.hid (ho.limbs)
    have Lp17 := Lib.hid (ho.len)
    replace H0 := Lib.hid (H0.out.below hb)
    replace H1 := Lib.hid (H1.out.below hb)
    replace H2 := Lib.hid (H2.out.below hb)
    replace Op15 := Lib.hid (Op15.out.below hb)
    replace Op16 := Lib.hid (Op16.out.below hb)
    replace B := Lib.hid (B.out.trans (hb.mono B.out.size))
    clear hb ho
    have Kp17 : mp17 ≤ 810 := by rw [← Lp17.out]; exact Nat.le_trans (digs_len9 ((mul_lt_pow V0.out (mul_lt_pow V1.out V2.out)))) (by omega)
    clear Op16 Lp16 Kp16
    go_wp2_with fail
    refine (same_c Ap15 Ap17 mp15 cp15 mp17 cp17 _ _ _ Op15.out Op17.out).mono ?_
    rw [decide_eq_true (congrArg (digs 1000000000) (Nat.mul_assoc _ _ _))]
    rintro e w21 ⟨rfl, hb⟩
    replace H0 := Lib.hid (H0.out.below hb)
    replace H1 := Lib.hid (H1.out.below hb)
    replace H2 := Lib.hid (H2.out.below hb)
    replace Op15 := Lib.hid (Op15.out.below hb)
    replace Op17 := Lib.hid (Op17.out.below hb)
    replace B := Lib.hid (B.out.trans (hb.mono B.out.size))
    clear hb 
    clear Op15 Lp15 Kp15
    clear Op17 Lp17 Kp17
    go_wp2_with fail
    refine (mul_c a0 none n0 c0 0 0 x0 [] _ H0.out (limbs_none _) G0.out (by simp) (by omega) (by omega)).mono ?_
    rintro e w22 ⟨An, mn, cn, rfl, ho, hb⟩
    simp only [val, Nat.mul_zero, digs_zero] at ho
    obtain rfl : mn = 0 := ho.len.symm
    replace H0 := Lib.hid (H0.out.below hb)
    replace H1 := Lib.hid (H1.out.below hb)
    replace H2 := Lib.hid (H2.out.below hb)
    replace B := Lib.hid (B.out.trans (hb.mono B.out.size))
    clear hb ho
    go_wp2
    go_ret
    exact ⟨rfl, B.out⟩
end Go.Proofs.Ythddeiadcecggaa
