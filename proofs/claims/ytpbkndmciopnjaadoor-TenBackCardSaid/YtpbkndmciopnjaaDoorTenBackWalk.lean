/-
  TenBack: the walk.
-/
import Derived.Test.YtpbkndmciopnjaaDoorTenAns
import Derived.Test.YtpbkndmciopnjaaDoorRefF
import Derived.Test.YtpbkndmciopnjaaDoorRefI
import Derived.Test.YtpbkndmciopnjaaDoorRefG
namespace Go.Proofs.YtpbkndmciopnjaaDoor
open Go.RowKit
set_option maxHeartbeats 2000000 in
set_option maxRecDepth 100000 in
theorem walk_tenBack (a0 : Option Addr) (n0 c0 : Nat) (x0 : List Nat) (k1 : Nat) (k2 : Nat) (w : World) (h0 : Limbs w a0 n0 x0) (h1 : k1 < 256) (h2 : k2 < 256) (hP : Pw w) :
    Calls Tryd.prog 6 #[.slice a0 n0 c0, .int .u8 (k1 : Int), .int .u8 (k2 : Int)] w fun e w' => e = .returned (.bool true) ∧ Below w.heap.size w w' := by
  have P := Lib.hid hP
  clear hP
  have B := Lib.hid (Below.refl w.heap.size w)
  have H0 := Lib.hid h0
  clear h0
  have CG := good04_c a0 n0 c0 x0 w H0.out
  rcases hg : (Arg.mk a0 n0 c0 x0).fineL 40 with _ | _
  · rw [hg] at CG
    have HCG := Lib.hid CG
    clear CG hg
    go_enter Tryd.func6, Tryd.ntmps6
    go_wp2_with fail
    refine (HCG.out).mono ?_
    rintro e W ⟨rfl, rfl⟩
    clear HCG
    go_wp2_with fail
    refine (answers04_c _ P.out).mono ?_
    rintro e w1 ⟨rfl, hb⟩
    replace P := Lib.hid (P.out.below hb)
    replace H0 := Lib.hid (H0.out.below hb)
    replace B := Lib.hid (B.out.trans (hb.mono B.out.size))
    clear hb 
    go_wp2
    go_ret
    exact ⟨rfl, B.out⟩
  · rw [hg] at CG
    have HCG := Lib.hid CG
    clear CG
    have F0 := Arg.fineL_true hg
    simp only at F0
    have hn0 := F0.1
    have G0 := Lib.hid F0.2
    have V0 := Lib.hid (limbs_lt F0.2 (m := 40) (by rw [H0.out.len]; exact hn0))
    clear hg F0
    go_enter Tryd.func6, Tryd.ntmps6
    go_wp2_with fail
    refine (HCG.out).mono ?_
    rintro e W ⟨rfl, rfl⟩
    clear HCG
    go_wp2_with fail
    refine (tenShift_c a0 n0 c0 x0 (k1 : Int) (k1) _ H0.out G0.out (by omega) (by omega) (by omega) P.out).mono ?_
    rintro e w1 ⟨Ap1, mp1, cp1, rfl, ho, hb⟩
    try simp only [val_digs 1000000000 (by omega)] at ho
    have Op1 := Lib.hid (ho.limbs)
    have Lp1 := Lib.hid (ho.len)
    have Qp1 := Lib.hid (ho.cap)
    replace P := Lib.hid (P.out.below hb)
    replace H0 := Lib.hid (H0.out.below hb)
    replace B := Lib.hid (B.out.trans (hb.mono B.out.size))
    clear hb ho
    have Kp1 : mp1 ≤ 616 := by rw [← Lp1.out]; exact Nat.le_trans (digs_len9 ((mul_lt_pow V0.out (Nat.pow_lt_pow_right (n := 256) (by omega) h1)))) (by omega)
    have ew : val 1000000000 x0 * 10 ^ k1 / 10 ^ k1 = val 1000000000 x0 := Nat.mul_div_cancel _ (pow_pos10 k1)
    have em : val 1000000000 x0 * 10 ^ k1 % 10 ^ k1 = 0 := Nat.mul_mod_left _ _
    have EW := Lib.hid ew
    have EM := Lib.hid em
    clear ew em
    go_wp2_with fail
    refine (tenCut_c Ap1 mp1 cp1 _ (k1 : Int) (k1) _ Op1.out (digs_lt 1000000000 (by omega) _) (by omega) Qp1.out (by omega) (by omega) P.out).mono ?_
    rintro e w2 ⟨Ap2, mp2, cp2, Ap3, mp3, cp3, rfl, ho, ho2, hb⟩
    try simp only [val_digs 1000000000 (by omega)] at ho ho2
    rw [EW.out] at ho
    rw [EM.out, digs_zero] at ho2
    have Op2 := Lib.hid (ho.limbs)
    have Lp2 := Lib.hid (ho.len)
    have Op3 := Lib.hid (ho2.limbs)
    have Lp3 := Lib.hid (ho2.len)
    replace P := Lib.hid (P.out.below hb)
    replace H0 := Lib.hid (H0.out.below hb)
    replace Op1 := Lib.hid (Op1.out.below hb)
    replace B := Lib.hid (B.out.trans (hb.mono B.out.size))
    clear hb ho ho2
    have Kp2 : mp2 ≤ 360 := by rw [← Lp2.out]; exact Nat.le_trans (digs_len9 (V0.out)) (by omega)
    obtain rfl : mp3 = 0 := Lp3.out.symm
    clear Op1 Lp1 Kp1
    go_wp2_with fail
    refine (answers04_c _ P.out).mono ?_
    rintro e w3 ⟨rfl, hb⟩
    replace P := Lib.hid (P.out.below hb)
    replace H0 := Lib.hid (H0.out.below hb)
    replace Op2 := Lib.hid (Op2.out.below hb)
    replace Op3 := Lib.hid (Op3.out.below hb)
    replace B := Lib.hid (B.out.trans (hb.mono B.out.size))
    clear hb 
    go_wp2_with fail
    refine (text_c a0 n0 c0 x0 _ H0.out G0.out (by omega)).mono ?_
    rintro e w4 ⟨s4, rfl, hs, hb⟩
    try simp only [val_digs 1000000000 (by omega)] at hs
    have Ss4 := Lib.hid (hs)
    replace P := Lib.hid (P.out.below hb)
    replace H0 := Lib.hid (H0.out.below hb)
    replace Op2 := Lib.hid (Op2.out.below hb)
    replace Op3 := Lib.hid (Op3.out.below hb)
    replace B := Lib.hid (B.out.trans (hb.mono B.out.size))
    clear hb hs
    have zs4 : s4.size ≤ 100000000 := by rw [Ss4.out.size]; exact Nat.le_trans (decs_len (V0.out)) (by omega)
    go_wp2_with fail
    refine (number_c s4 _ _ Ss4.out zs4).mono ?_
    rintro e w5 ⟨Ap5, mp5, cp5, rfl, ho, hb⟩
    try simp only [val_digs 1000000000 (by omega)] at ho
    try rw [dval_decs] at ho
    have Op5 := Lib.hid (ho.limbs)
    have Lp5 := Lib.hid (ho.len)
    have Qp5 := Lib.hid (ho.cap)
    replace P := Lib.hid (P.out.below hb)
    replace H0 := Lib.hid (H0.out.below hb)
    replace Op2 := Lib.hid (Op2.out.below hb)
    replace Op3 := Lib.hid (Op3.out.below hb)
    replace B := Lib.hid (B.out.trans (hb.mono B.out.size))
    clear hb ho
    have Kp5 : mp5 ≤ 360 := by rw [← Lp5.out]; exact Nat.le_trans (digs_len9 (V0.out)) (by omega)
    go_wp2_with fail
    refine (same_c Ap2 Ap5 mp2 cp2 mp5 cp5 _ _ _ Op2.out Op5.out).mono ?_
    rw [decide_eq_true (rfl)]
    rintro e w6 ⟨rfl, hb⟩
    replace P := Lib.hid (P.out.below hb)
    replace H0 := Lib.hid (H0.out.below hb)
    replace Op2 := Lib.hid (Op2.out.below hb)
    replace Op3 := Lib.hid (Op3.out.below hb)
    replace Op5 := Lib.hid (Op5.out.below hb)
    replace B := Lib.hid (B.out.trans (hb.mono B.out.size))
    clear hb 
    clear Op2 Lp2 Kp2
    clear Op5 Lp5 Kp5
    go_wp2_with fail
    refine (tenShift_c a0 n0 c0 x0 (k1 : Int) (k1) _ H0.out G0.out (by omega) (by omega) (by omega) P.out).mono ?_
    rintro e w7 ⟨Ap6, mp6, cp6, rfl, ho, hb⟩
    try simp only [val_digs 1000000000 (by omega)] at ho
    have Op6 := Lib.hid (ho.limbs)
    have Lp6 := Lib.hid (ho.len)
    have Qp6 := Lib.hid (ho.cap)
    replace P := Lib.hid (P.out.below hb)
    replace H0 := Lib.hid (H0.out.below hb)
    replace Op3 := Lib.hid (Op3.out.below hb)
    replace B := Lib.hid (B.out.trans (hb.mono B.out.size))
    clear hb ho
    have Kp6 : mp6 ≤ 616 := by rw [← Lp6.out]; exact Nat.le_trans (digs_len9 ((mul_lt_pow V0.out (Nat.pow_lt_pow_right (n := 256) (by omega) h1)))) (by omega)
    go_wp2_with fail
    refine (tenShift_c Ap6 mp6 cp6 _ (k2 : Int) (k2) _ Op6.out (digs_lt 1000000000 (by omega) _) (by omega) (by omega) (by omega) P.out).mono ?_
    rintro e w8 ⟨Ap7, mp7, cp7, rfl, ho, hb⟩
    try simp only [val_digs 1000000000 (by omega)] at ho
    have Op7 := Lib.hid (ho.limbs)
    have Lp7 := Lib.hid (ho.len)
    have Qp7 := Lib.hid (ho.cap)
    replace P := Lib.hid (P.out.below hb)
    replace H0 := Lib.hid (H0.out.below hb)
    replace Op3 := Lib.hid (Op3.out.below hb)
    replace Op6 := Lib.hid (Op6.out.below hb)
    replace B := Lib.hid (B.out.trans (hb.mono B.out.size))
    clear hb ho
    have Kp7 : mp7 ≤ 872 := by rw [← Lp7.out]; exact Nat.le_trans (digs_len9 ((mul_lt_pow (mul_lt_pow V0.out (Nat.pow_lt_pow_right (n := 256) (by omega) h1)) (Nat.pow_lt_pow_right (n := 256) (by omega) h2)))) (by omega)
    go_wp2_with fail
    refine (tenShift_c a0 n0 c0 x0 ((k1 : Int) + (k2 : Int)) (k1 + k2) _ H0.out G0.out (by omega) (by omega) (by omega) P.out).mono ?_
    rintro e w9 ⟨Ap8, mp8, cp8, rfl, ho, hb⟩
    try simp only [val_digs 1000000000 (by omega)] at ho
    have Op8 := Lib.hid (ho.limbs)
    have Lp8 := Lib.hid (ho.len)
    have Qp8 := Lib.hid (ho.cap)
    replace P := Lib.hid (P.out.below hb)
    replace H0 := Lib.hid (H0.out.below hb)
    replace Op3 := Lib.hid (Op3.out.below hb)
    replace Op6 := Lib.hid (Op6.out.below hb)
    replace Op7 := Lib.hid (Op7.out.below hb)
    replace B := Lib.hid (B.out.trans (hb.mono B.out.size))
    clear hb ho
    have Kp8 : mp8 ≤ 872 := by rw [← Lp8.out]; exact Nat.le_trans (digs_len9 ((mul_lt_pow V0.out (Nat.pow_lt_pow_right (n := 512) (by omega) (by omega))))) (by omega)
    go_wp2_with fail
    refine (same_c Ap7 Ap8 mp7 cp7 mp8 cp8 _ _ _ Op7.out Op8.out).mono ?_
    rw [decide_eq_true (by rw [Nat.pow_add, Nat.mul_assoc])]
    rintro e w10 ⟨rfl, hb⟩
    replace P := Lib.hid (P.out.below hb)
    replace H0 := Lib.hid (H0.out.below hb)
    replace Op3 := Lib.hid (Op3.out.below hb)
    replace Op6 := Lib.hid (Op6.out.below hb)
    replace Op7 := Lib.hid (Op7.out.below hb)
    replace Op8 := Lib.hid (Op8.out.below hb)
    replace B := Lib.hid (B.out.trans (hb.mono B.out.size))
    clear hb 
    go_wp2
    go_ret
    exact ⟨rfl, B.out⟩
end Go.Proofs.YtpbkndmciopnjaaDoor
