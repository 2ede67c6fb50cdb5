/-
  DivDivs: the walk.
-/
import Derived.Test.YtmfcjjjkndfojaaGood03
import Derived.Test.YtmfcjjjkndfojaaAns03
import Derived.Test.YtmfcjjjkndfojaaRefG
import Derived.Test.YtmfcjjjkndfojaaRefH
import Derived.Test.YtmfcjjjkndfojaaRefI
namespace Go.Proofs.Ytmfcjjjkndfojaa
open Go.RowKit
set_option maxHeartbeats 2000000 in
set_option maxRecDepth 100000 in
theorem walk_divDivs (a0 : Option Addr) (n0 c0 : Nat) (x0 : List Nat) (a1 : Option Addr) (n1 c1 : Nat) (x1 : List Nat) (w : World) (h0 : Limbs w a0 n0 x0) (h1 : Limbs w a1 n1 x1) :
    Calls Try.prog 3 #[.slice a0 n0 c0, .slice a1 n1 c1] w fun e w' => e = .returned (.bool true) ∧ Below w.heap.size w w' := by
  have B := Lib.hid (Below.refl w.heap.size w)
  have H0 := Lib.hid h0
  clear h0
  have H1 := Lib.hid h1
  clear h1
  have CG := good03_2_c a0 a1 n0 c0 n1 c1 x0 x1 w H0.out H1.out
  try simp only [World.size_alloc] at CG
  have hbA := (Below.refl (w).heap.size w).alloc (Nat.le_refl _) (.cells #[.slice a0 n0 c0, .slice a1 n1 c1] 22)
  replace H0 := Lib.hid (H0.out.below hbA)
  replace H1 := Lib.hid (H1.out.below hbA)
  replace B := Lib.hid (B.out.trans (hbA.mono B.out.size))
  clear hbA
  rcases hg : (Arg.mk a0 n0 c0 x0).fineL 20 && (Arg.mk a1 n1 c1 x1).fineL 20 with _ | _
  · rw [hg] at CG
    have HCG := Lib.hid CG
    clear CG hg
    go_enter Try.func3, Try.ntmps3
    go_wp2_with fail
    refine (HCG.out).mono ?_
    rintro e W ⟨rfl, rfl⟩
    clear HCG
    go_wp2_with fail
    refine (answers03_c _).mono ?_
    rintro e w1 ⟨rfl, hb⟩
    replace H0 := Lib.hid (H0.out.below hb)
    replace H1 := Lib.hid (H1.out.below hb)
    replace B := Lib.hid (B.out.trans (hb.mono B.out.size))
    clear hb 
    go_wp2
    go_ret
    exact ⟨rfl, B.out⟩
  · rw [hg] at CG
    have HCG := Lib.hid CG
    clear CG
    try simp only [Bool.and_eq_true] at hg
    have F0 := Arg.fineL_true hg.1
    simp only at F0
    have hn0 := F0.1
    have G0 := Lib.hid F0.2
    have V0 := Lib.hid (limbs_lt F0.2 (m := 20) (by rw [H0.out.len]; exact hn0))
    have F1 := Arg.fineL_true hg.2
    simp only at F1
    have hn1 := F1.1
    have G1 := Lib.hid F1.2
    have V1 := Lib.hid (limbs_lt F1.2 (m := 20) (by rw [H1.out.len]; exact hn1))
    clear hg F0 F1
    go_enter Try.func3, Try.ntmps3
    go_wp2_with fail
    refine (HCG.out).mono ?_
    rintro e W ⟨rfl, rfl⟩
    clear HCG
    rcases Nat.eq_zero_or_pos (val 1000000000 x1) with hz | hz
    · have HZ := Lib.hid hz
      clear hz
      go_wp2_with fail
      refine (divMod_zero a0 a1 n0 c0 n1 c1 x0 x1 _ H0.out H1.out G1.out (by omega) (by omega) HZ.out).mono ?_
      rintro e w1 ⟨rfl, hb⟩
      replace H0 := Lib.hid (H0.out.below hb)
      replace H1 := Lib.hid (H1.out.below hb)
      replace B := Lib.hid (B.out.trans (hb.mono B.out.size))
      clear hb 
      go_wp2_with fail
      refine (text_c a1 n1 c1 x1 _ H1.out G1.out (by omega)).mono ?_
      rintro e w2 ⟨s1, rfl, hs, hb⟩
      try simp only [val_digs 1000000000 (by omega)] at hs
      have Ss1 := Lib.hid (hs)
      replace H0 := Lib.hid (H0.out.below hb)
      replace H1 := Lib.hid (H1.out.below hb)
      replace B := Lib.hid (B.out.trans (hb.mono B.out.size))
      clear hb hs
      have zs1 : s1.size ≤ 100000000 := by rw [Ss1.out.size]; exact Nat.le_trans (decs_len (V1.out)) (by omega)
      obtain rfl : s1 = ⟨#[]⟩ := IsD.ext (by have h := Ss1.out; rw [HZ.out, decs_zero] at h; exact h) IsD.nil
      go_wp2_with fail
      refine (answers03_c _).mono ?_
      rintro e w3 ⟨rfl, hb⟩
      replace H0 := Lib.hid (H0.out.below hb)
      replace H1 := Lib.hid (H1.out.below hb)
      replace B := Lib.hid (B.out.trans (hb.mono B.out.size))
      clear hb 
      go_wp2
      go_ret
      exact ⟨rfl, B.out⟩
    · have HZ := Lib.hid hz
      clear hz
      go_wp2_with fail
      refine (divMod_c a0 a1 n0 c0 n1 c1 x0 x1 _ H0.out H1.out G0.out G1.out (by omega) (by omega) HZ.out).mono ?_
      rintro e w1 ⟨Ap1, mp1, cp1, Ap2, mp2, cp2, rfl, ho, ho2, hb⟩
      try simp only [val_digs 1000000000 (by omega)] at ho ho2
      have Op1 := Lib.hid (ho.limbs)
      have Lp1 := Lib.hid (ho.len)
      have Op2 := Lib.hid (ho2.limbs)
      have Lp2 := Lib.hid (ho2.len)
      replace H0 := Lib.hid (H0.out.below hb)
      replace H1 := Lib.hid (H1.out.below hb)
      replace B := Lib.hid (B.out.trans (hb.mono B.out.size))
      clear hb ho ho2
      have Kp1 : mp1 ≤ 180 := by rw [← Lp1.out]; exact Nat.le_trans (digs_len9 ((Nat.lt_of_le_of_lt (Nat.div_le_self _ _) V0.out))) (by omega)
      have Kp2 : mp2 ≤ 180 := by rw [← Lp2.out]; exact Nat.le_trans (digs_len9 ((Nat.lt_of_le_of_lt (Nat.mod_le _ _) V0.out))) (by omega)
      go_wp2_with fail
      refine (text_c a1 n1 c1 x1 _ H1.out G1.out (by omega)).mono ?_
      rintro e w2 ⟨s3, rfl, hs, hb⟩
      try simp only [val_digs 1000000000 (by omega)] at hs
      have Ss3 := Lib.hid (hs)
      replace H0 := Lib.hid (H0.out.below hb)
      replace H1 := Lib.hid (H1.out.below hb)
      replace Op1 := Lib.hid (Op1.out.below hb)
      replace Op2 := Lib.hid (Op2.out.below hb)
      replace B := Lib.hid (B.out.trans (hb.mono B.out.size))
      clear hb hs
      have zs3 : s3.size ≤ 100000000 := by rw [Ss3.out.size]; exact Nat.le_trans (decs_len (V1.out)) (by omega)
      have Es3 : s3.toList.isEmpty = false := IsD.nonempty Ss3.out HZ.out
      go_wp2_with fail
      refine (text_c a0 n0 c0 x0 _ H0.out G0.out (by omega)).mono ?_
      rintro e w3 ⟨s4, rfl, hs, hb⟩
      try simp only [val_digs 1000000000 (by omega)] at hs
      have Ss4 := Lib.hid (hs)
      replace H0 := Lib.hid (H0.out.below hb)
      replace H1 := Lib.hid (H1.out.below hb)
      replace Op1 := Lib.hid (Op1.out.below hb)
      replace Op2 := Lib.hid (Op2.out.below hb)
      replace B := Lib.hid (B.out.trans (hb.mono B.out.size))
      clear hb hs
      have zs4 : s4.size ≤ 100000000 := by rw [Ss4.out.size]; exact Nat.le_trans (decs_len (V0.out)) (by omega)
      go_wp2_with fail
      refine (text_c a1 n1 c1 x1 _ H1.out G1.out (by omega)).mono ?_
      rintro e w4 ⟨s5, rfl, hs, hb⟩
      try simp only [val_digs 1000000000 (by omega)] at hs
      have Ss5 := Lib.hid (hs)
      replace H0 := Lib.hid (H0.out.below hb)
      replace H1 := Lib.hid (H1.out.below hb)
      replace Op1 := Lib.hid (Op1.out.below hb)
      replace Op2 := Lib.hid (Op2.out.below hb)
      replace B := Lib.hid (B.out.trans (hb.mono B.out.size))
      clear hb hs
      have zs5 : s5.size ≤ 100000000 := by rw [Ss5.out.size]; exact Nat.le_trans (decs_len (V1.out)) (by omega)
      go_wp2_with fail
      refine (over_c s4 s5 _ _ _ Ss4.out Ss5.out (by rw [Ss4.out.size]; exact Nat.le_trans (decs_len (V0.out)) (by omega)) (by rw [Ss5.out.size]; exact Nat.le_trans (decs_len (V1.out)) (by omega)) HZ.out).mono ?_
      rintro e w5 ⟨s6, s7, rfl, hs, hs2, hb⟩
      rw [dval_decs] at hs hs2
      have Ss6 := Lib.hid (hs)
      have Ss7 := Lib.hid (hs2)
      replace H0 := Lib.hid (H0.out.below hb)
      replace H1 := Lib.hid (H1.out.below hb)
      replace Op1 := Lib.hid (Op1.out.below hb)
      replace Op2 := Lib.hid (Op2.out.below hb)
      replace B := Lib.hid (B.out.trans (hb.mono B.out.size))
      clear hb hs hs2
      have zs6 : s6.size ≤ 100000000 := by rw [Ss6.out.size]; exact Nat.le_trans (decs_len ((Nat.lt_of_le_of_lt (Nat.div_le_self _ _) V0.out))) (by omega)
      have zs7 : s7.size ≤ 100000000 := by rw [Ss7.out.size]; exact Nat.le_trans (decs_len ((Nat.lt_of_le_of_lt (Nat.mod_le _ _) V0.out))) (by omega)
      go_wp2_with fail
      refine (answers03_c _).mono ?_
      rintro e w6 ⟨rfl, hb⟩
      replace H0 := Lib.hid (H0.out.below hb)
      replace H1 := Lib.hid (H1.out.below hb)
      replace Op1 := Lib.hid (Op1.out.below hb)
      replace Op2 := Lib.hid (Op2.out.below hb)
      replace B := Lib.hid (B.out.trans (hb.mono B.out.size))
      clear hb 
      go_wp2_with fail
      refine (number_c s6 _ _ Ss6.out zs6).mono ?_
      rintro e w7 ⟨Ap8, mp8, cp8, rfl, ho, hb⟩
      try simp only [val_digs 1000000000 (by omega)] at ho
      try rw [dval_decs] at ho
      have Op8 := Lib.hid (ho.limbs)
      have Lp8 := Lib.hid (ho.len)
      replace H0 := Lib.hid (H0.out.below hb)
      replace H1 := Lib.hid (H1.out.below hb)
      replace Op1 := Lib.hid (Op1.out.below hb)
      replace Op2 := Lib.hid (Op2.out.below hb)
      replace B := Lib.hid (B.out.trans (hb.mono B.out.size))
      clear hb ho
      have Kp8 : mp8 ≤ 180 := by rw [← Lp8.out]; exact Nat.le_trans (digs_len9 ((Nat.lt_of_le_of_lt (Nat.div_le_self _ _) V0.out))) (by omega)
      go_wp2_with fail
      refine (same_c Ap1 Ap8 mp1 cp1 mp8 cp8 _ _ _ Op1.out Op8.out).mono ?_
      rw [decide_eq_true (rfl)]
      rintro e w8 ⟨rfl, hb⟩
      replace H0 := Lib.hid (H0.out.below hb)
      replace H1 := Lib.hid (H1.out.below hb)
      replace Op1 := Lib.hid (Op1.out.below hb)
      replace Op2 := Lib.hid (Op2.out.below hb)
      replace Op8 := Lib.hid (Op8.out.below hb)
      replace B := Lib.hid (B.out.trans (hb.mono B.out.size))
      clear hb 
      go_wp2_with fail
      refine (number_c s7 _ _ Ss7.out zs7).mono ?_
      rintro e w9 ⟨Ap9, mp9, cp9, rfl, ho, hb⟩
      try simp only [val_digs 1000000000 (by omega)] at ho
      try rw [dval_decs] at ho
      have Op9 := Lib.hid (ho.limbs)
      have Lp9 := Lib.hid (ho.len)
      replace H0 := Lib.hid (H0.out.below hb)
      replace H1 := Lib.hid (H1.out.below hb)
      replace Op1 := Lib.hid (Op1.out.below hb)
      replace Op2 := Lib.hid (Op2.out.below hb)
      replace Op8 := Lib.hid (Op8.out.below hb)
      replace B := Lib.hid (B.out.trans (hb.mono B.out.size))
      clear hb ho
      have Kp9 : mp9 ≤ 180 := by rw [← Lp9.out]; exact Nat.le_trans (digs_len9 ((Nat.lt_of_le_of_lt (Nat.mod_le _ _) V0.out))) (by omega)
      go_wp2_with fail
      refine (same_c Ap2 Ap9 mp2 cp2 mp9 cp9 _ _ _ Op2.out Op9.out).mono ?_
      rw [decide_eq_true (rfl)]
      rintro e w10 ⟨rfl, hb⟩
      replace H0 := Lib.hid (H0.out.below hb)
      replace H1 := Lib.hid (H1.out.below hb)
      replace Op1 := Lib.hid (Op1.out.below hb)
      replace Op2 := Lib.hid (Op2.out.below hb)
      replace Op8 := Lib.hid (Op8.out.below hb)
      replace Op9 := Lib.hid (Op9.out.below hb)
      replace B := Lib.hid (B.out.trans (hb.mono B.out.size))
      clear hb 
      go_wp2
      go_ret
      exact ⟨rfl, B.out⟩
end Go.Proofs.Ytmfcjjjkndfojaa
