/-
  TenDigits: the walk.
-/
import Derived.Test.YtpbkndmciopnjaaDoorTenAns
import Derived.Test.YtpbkndmciopnjaaDoorRefF
import Derived.Test.YtpbkndmciopnjaaDoorRefI
import Derived.Test.YtpbkndmciopnjaaDoorRefG
namespace Go.Proofs.YtpbkndmciopnjaaDoor
open Go.RowKit
set_option maxHeartbeats 2000000 in
set_option maxRecDepth 100000 in
theorem walk_tenDigits (a0 : Option Addr) (n0 c0 : Nat) (x0 : List Nat) (w : World) (h0 : Limbs w a0 n0 x0) (hP : Pw w) :
    Calls Tryd.prog 3 #[.slice a0 n0 c0] w fun e w' => e = .returned (.bool true) ∧ Below w.heap.size w w' := by
  have P := Lib.hid hP
  clear hP
  have B := Lib.hid (Below.refl w.heap.size w)
  have H0 := Lib.hid h0
  clear h0
  have CG := good04_c a0 n0 c0 x0 w H0.out
  rcases hg : (Arg.mk a0 n0 c0 x0).fineL 40 with _ | _
  · rw [hg] at CG
    have HCG := Lib.hid CG
    clear CG hg
    go_enter Tryd.func3, Tryd.ntmps3
    go_wp2_with fail
    refine (HCG.out).mono ?_
    rintro e W ⟨rfl, rfl⟩
    clear HCG
    go_wp2_with fail
    refine (answers04_c _ P.out).mono ?_
    rintro e w1 ⟨rfl, hb⟩
    replace P := Lib.hid (P.out.below hb)
    replace H0 := Lib.hid (H0.out.below hb)
    replace B := Lib.hid (B.out.trans (hb.mono B.out.size))
    clear hb 
    go_wp2
    go_ret
    exact ⟨rfl, B.out⟩
  · rw [hg] at CG
    have HCG := Lib.hid CG
    clear CG
    have F0 := Arg.fineL_true hg
    simp only at F0
    have hn0 := F0.1
    have G0 := Lib.hid F0.2
    have V0 := Lib.hid (limbs_lt F0.2 (m := 40) (by rw [H0.out.len]; exact hn0))
    clear hg F0
    go_enter Tryd.func3, Tryd.ntmps3
    go_wp2_with fail
    refine (HCG.out).mono ?_
    rintro e W ⟨rfl, rfl⟩
    clear HCG
    go_wp2_with fail
    refine (text_c a0 n0 c0 x0 _ H0.out G0.out (by omega)).mono ?_
    rintro e w1 ⟨s1, rfl, hs, hb⟩
    try simp only [val_digs 1000000000 (by omega)] at hs
    have Ss1 := Lib.hid (hs)
    replace P := Lib.hid (P.out.below hb)
    replace H0 := Lib.hid (H0.out.below hb)
    replace B := Lib.hid (B.out.trans (hb.mono B.out.size))
    clear hb hs
    have zs1 : s1.size ≤ 100000000 := by rw [Ss1.out.size]; exact Nat.le_trans (decs_len (V0.out)) (by omega)
    go_wp2_with fail
    refine (tenDigits_c a0 n0 c0 x0 _ H0.out G0.out (by omega) P.out).mono ?_
    rintro e w2 ⟨s2, rfl, hs, hb⟩
    try simp only [val_digs 1000000000 (by omega)] at hs
    have Ss2 := Lib.hid (hs)
    replace P := Lib.hid (P.out.below hb)
    replace H0 := Lib.hid (H0.out.below hb)
    replace B := Lib.hid (B.out.trans (hb.mono B.out.size))
    clear hb hs
    have zs2 : s2.size ≤ 100000000 := by rw [Ss2.out.size]; exact Nat.le_trans (orZero_len (V0.out)) (by omega)
    have ys2 : 0 < s2.size := by rw [Ss2.out.size]; exact orZero_pos _
    go_wp2_with fail
    refine (tenNumber_ok s2 _ _ Ss2.out (Nat.le_trans zs2 (by omega)) ys2 P.out).mono ?_
    rintro e w3 ⟨Ap3, mp3, cp3, rfl, ho, hb⟩
    rw [dval_orZero_decs] at ho
    have Op3 := Lib.hid (ho.limbs)
    have Lp3 := Lib.hid (ho.len)
    have Qp3 := Lib.hid (ho.cap)
    replace P := Lib.hid (P.out.below hb)
    replace H0 := Lib.hid (H0.out.below hb)
    replace B := Lib.hid (B.out.trans (hb.mono B.out.size))
    clear hb ho
    have Kp3 : mp3 ≤ 360 := by rw [← Lp3.out]; exact Nat.le_trans (digs_len9 (V0.out)) (by omega)
    go_wp2_with fail
    refine (answers04_c _ P.out).mono ?_
    rintro e w4 ⟨rfl, hb⟩
    replace P := Lib.hid (P.out.below hb)
    replace H0 := Lib.hid (H0.out.below hb)
    replace Op3 := Lib.hid (Op3.out.below hb)
    replace B := Lib.hid (B.out.trans (hb.mono B.out.size))
    clear hb 
    go_wp2_with fail
    refine (tenDigits_c a0 n0 c0 x0 _ H0.out G0.out (by omega) P.out).mono ?_
    rintro e w5 ⟨s4, rfl, hs, hb⟩
    try simp only [val_digs 1000000000 (by omega)] at hs
    have Ss4 := Lib.hid (hs)
    replace P := Lib.hid (P.out.below hb)
    replace H0 := Lib.hid (H0.out.below hb)
    replace Op3 := Lib.hid (Op3.out.below hb)
    replace B := Lib.hid (B.out.trans (hb.mono B.out.size))
    clear hb hs
    have zs4 : s4.size ≤ 100000000 := by rw [Ss4.out.size]; exact Nat.le_trans (orZero_len (V0.out)) (by omega)
    have ys4 : 0 < s4.size := by rw [Ss4.out.size]; exact orZero_pos _
    obtain rfl : s2 = s4 := IsD.ext Ss2.out Ss4.out
    go_wp2_with fail
    refine (zero04_c s1 _ _ Ss1.out).mono ?_
    rintro e W ⟨s5, rfl, hs, rfl⟩
    have Ss5 := Lib.hid hs
    clear hs
    obtain rfl : s2 = s5 := IsD.ext Ss2.out Ss5.out
    go_wp2_with fail
    refine (tenLen_s s1 a0 n0 c0 x0 _ H0.out G0.out (by omega) P.out Ss1.out).mono ?_
    rintro e w6 ⟨rfl, hb⟩
    replace P := Lib.hid (P.out.below hb)
    replace H0 := Lib.hid (H0.out.below hb)
    replace Op3 := Lib.hid (Op3.out.below hb)
    replace B := Lib.hid (B.out.trans (hb.mono B.out.size))
    clear hb 
    go_wp2_with fail
    refine (number_c s1 _ _ Ss1.out zs1).mono ?_
    rintro e w7 ⟨Ap6, mp6, cp6, rfl, ho, hb⟩
    try simp only [val_digs 1000000000 (by omega)] at ho
    try rw [dval_decs] at ho
    have Op6 := Lib.hid (ho.limbs)
    have Lp6 := Lib.hid (ho.len)
    have Qp6 := Lib.hid (ho.cap)
    replace P := Lib.hid (P.out.below hb)
    replace H0 := Lib.hid (H0.out.below hb)
    replace Op3 := Lib.hid (Op3.out.below hb)
    replace B := Lib.hid (B.out.trans (hb.mono B.out.size))
    clear hb ho
    have Kp6 : mp6 ≤ 360 := by rw [← Lp6.out]; exact Nat.le_trans (digs_len9 (V0.out)) (by omega)
    go_wp2_with fail
    refine (same_c Ap3 Ap6 mp3 cp3 mp6 cp6 _ _ _ Op3.out Op6.out).mono ?_
    rw [decide_eq_true (rfl)]
    rintro e w8 ⟨rfl, hb⟩
    replace P := Lib.hid (P.out.below hb)
    replace H0 := Lib.hid (H0.out.below hb)
    replace Op3 := Lib.hid (Op3.out.below hb)
    replace Op6 := Lib.hid (Op6.out.below hb)
    replace B := Lib.hid (B.out.trans (hb.mono B.out.size))
    clear hb 
    go_wp2
    go_ret
    exact ⟨rfl, B.out⟩
end Go.Proofs.YtpbkndmciopnjaaDoor
