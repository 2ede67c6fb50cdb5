/-
  TenShifts: the walk.
-/
import Derived.Test.YtpbkndmciopnjaaDoorTenAns
import Derived.Test.YtpbkndmciopnjaaDoorRefF
import Derived.Test.YtpbkndmciopnjaaDoorRefI
import Derived.Test.YtpbkndmciopnjaaDoorRefG
namespace Go.Proofs.YtpbkndmciopnjaaDoor
open Go.RowKit
set_option maxHeartbeats 2000000 in
set_option maxRecDepth 100000 in
theorem walk_tenShifts (a0 : Option Addr) (n0 c0 : Nat) (x0 : List Nat) (k1 : Int) (w : World) (h0 : Limbs w a0 n0 x0) (e0 : n0 ≤ c0) (h1 : -9223372036854775808 ≤ k1 ∧ k1 ≤ 9223372036854775807) (hP : Pw w) :
    Calls Tryd.prog 5 #[.slice a0 n0 c0, .int .i64 k1] w fun e w' => e = .returned (.bool true) ∧ Below w.heap.size w w' := by
  have P := Lib.hid hP
  clear hP
  have B := Lib.hid (Below.refl w.heap.size w)
  have H0 := Lib.hid h0
  clear h0
  have CG := good04_c a0 n0 c0 x0 w H0.out
  rcases hg : (Arg.mk a0 n0 c0 x0).fineL 40 with _ | _
  · rw [hg] at CG
    have HCG := Lib.hid CG
    clear CG hg
    go_enter Tryd.func5, Tryd.ntmps5
    go_wp2_with fail
    refine (HCG.out).mono ?_
    rintro e W ⟨rfl, rfl⟩
    clear HCG
    go_wp2_with fail
    refine (answers04_c _ P.out).mono ?_
    rintro e w1 ⟨rfl, hb⟩
    replace P := Lib.hid (P.out.below hb)
    replace H0 := Lib.hid (H0.out.below hb)
    replace B := Lib.hid (B.out.trans (hb.mono B.out.size))
    clear hb 
    go_wp2
    go_ret
    exact ⟨rfl, B.out⟩
  · rw [hg] at CG
    have HCG := Lib.hid CG
    clear CG
    have F0 := Arg.fineL_true hg
    simp only at F0
    have hn0 := F0.1
    have G0 := Lib.hid F0.2
    have V0 := Lib.hid (limbs_lt F0.2 (m := 40) (by rw [H0.out.len]; exact hn0))
    clear hg F0
    by_cases hbig : 400 < k1
    · clear h1
      go_enter Tryd.func5, Tryd.ntmps5
      go_wp2_with fail
      refine (HCG.out).mono ?_
      rintro e W ⟨rfl, rfl⟩
      clear HCG
      go_wp2_with fail
      refine (answers04_c _ P.out).mono ?_
      rintro e w1 ⟨rfl, hb⟩
      replace P := Lib.hid (P.out.below hb)
      replace H0 := Lib.hid (H0.out.below hb)
      replace B := Lib.hid (B.out.trans (hb.mono B.out.size))
      clear hb 
      go_wp2
      go_ret
      exact ⟨rfl, B.out⟩
    · have hle : k1 ≤ 400 := by omega
      obtain ⟨K, hK⟩ : ∃ K : Nat, K = k1.toNat := ⟨_, rfl⟩
      have hz : max k1 0 = (K : Int) := by omega
      have hK4 : K ≤ 400 := by omega
      clear h1 hK
      go_enter Tryd.func5, Tryd.ntmps5
      go_wp2_with fail
      refine (HCG.out).mono ?_
      rintro e W ⟨rfl, rfl⟩
      clear HCG
      go_wp2_with fail
      refine (text_c a0 n0 c0 x0 _ H0.out G0.out (by omega)).mono ?_
      rintro e w1 ⟨s1, rfl, hs, hb⟩
      try simp only [val_digs 1000000000 (by omega)] at hs
      have Ss1 := Lib.hid (hs)
      replace P := Lib.hid (P.out.below hb)
      replace H0 := Lib.hid (H0.out.below hb)
      replace B := Lib.hid (B.out.trans (hb.mono B.out.size))
      clear hb hs
      have zs1 : s1.size ≤ 100000000 := by rw [Ss1.out.size]; exact Nat.le_trans (decs_len (V0.out)) (by omega)
      have hsz : s1.size = (decs (val 1000000000 x0)).length := Ss1.out.size
      have hszb : s1.size ≤ 360 := by rw [hsz]; exact Nat.le_trans (decs_len V0.out) (by omega)
      have HSZ := Lib.hid hsz
      clear hsz
      go_wp2_with fail
      refine (zeros_c K _ (by omega)).mono ?_
      rintro e w2 ⟨s2, rfl, hs, hb⟩
      have Ss2 := Lib.hid (hs)
      replace P := Lib.hid (P.out.below hb)
      replace H0 := Lib.hid (H0.out.below hb)
      replace B := Lib.hid (B.out.trans (hb.mono B.out.size))
      clear hb hs
      have hz2 : s2.size ≤ 400 := by rw [Ss2.out.size, List.length_replicate]; exact hK4
      have hap := Ss1.out.append Ss2.out
      have happ : (s1 ++ s2).size ≤ 1000000000 := by rw [hap.size, List.length_append, List.length_replicate, ← HSZ.out]; omega
      have HAP := Lib.hid hap
      clear hap
      go_wp2_with fail
      refine (strip_c _ _ _ HAP.out happ).mono ?_
      rintro e W ⟨s3, rfl, hs, rfl⟩
      rw [dval_append, List.length_replicate, dval_decs, dval_zeros, Nat.add_zero] at hs
      have Ss3 := Lib.hid hs
      clear hs happ
      have hpk : 10 ^ K < 10 ^ (K + 1) := Nat.pow_lt_pow_right (by omega) (Nat.lt_succ_self K)
      have HPK := Lib.hid hpk
      clear hpk
      have zs3 : s3.size ≤ 100000000 := by rw [Ss3.out.size]; exact Nat.le_trans (decs_len (mul_lt_pow V0.out HPK.out)) (by omega)
      go_wp2_with fail
      refine (tenCut_c a0 n0 c0 x0 k1 (K) _ H0.out G0.out (by omega) e0 hz (by omega) P.out).mono ?_
      rintro e w3 ⟨Ap4, mp4, cp4, Ap5, mp5, cp5, rfl, ho, ho2, hb⟩
      try simp only [val_digs 1000000000 (by omega)] at ho ho2
      have Op4 := Lib.hid (ho.limbs)
      have Lp4 := Lib.hid (ho.len)
      have Op5 := Lib.hid (ho2.limbs)
      have Lp5 := Lib.hid (ho2.len)
      replace P := Lib.hid (P.out.below hb)
      replace H0 := Lib.hid (H0.out.below hb)
      replace B := Lib.hid (B.out.trans (hb.mono B.out.size))
      clear hb ho ho2
      have Kp4 : mp4 ≤ 360 := by rw [← Lp4.out]; exact Nat.le_trans (digs_len9 ((Nat.lt_of_le_of_lt (Nat.div_le_self _ _) V0.out))) (by omega)
      have Kp5 : mp5 ≤ 360 := by rw [← Lp5.out]; exact Nat.le_trans (digs_len9 ((Nat.lt_of_le_of_lt (Nat.mod_le _ _) V0.out))) (by omega)
      have hmx : max 0 ((s1.size : Int) - (K : Int)) = ((s1.size - K : Nat) : Int) := by omega
      obtain ⟨T, hT⟩ : ∃ T : Nat, T = s1.size - K := ⟨_, rfl⟩
      rw [← hT] at hmx
      have hTs : T ≤ s1.size := by omega
      have HT := Lib.hid hT
      clear hT
      have hq := decs_take (val 1000000000 x0) K
      have hr := decs_drop (val 1000000000 x0) K
      rw [← HSZ.out, ← HT.out] at hq hr
      have HQ := Lib.hid hq
      have HR := Lib.hid hr
      clear hq hr
      go_wp2_with fail
      refine (answers04_c _ P.out).mono ?_
      rintro e w4 ⟨rfl, hb⟩
      replace P := Lib.hid (P.out.below hb)
      replace H0 := Lib.hid (H0.out.below hb)
      replace Op4 := Lib.hid (Op4.out.below hb)
      replace Op5 := Lib.hid (Op5.out.below hb)
      replace B := Lib.hid (B.out.trans (hb.mono B.out.size))
      clear hb 
      go_wp2_with fail
      refine (tenShift_c a0 n0 c0 x0 k1 (K) _ H0.out G0.out (by omega) hz (by omega) P.out).mono ?_
      rintro e w5 ⟨Ap6, mp6, cp6, rfl, ho, hb⟩
      try simp only [val_digs 1000000000 (by omega)] at ho
      have Op6 := Lib.hid (ho.limbs)
      have Lp6 := Lib.hid (ho.len)
      have Qp6 := Lib.hid (ho.cap)
      replace P := Lib.hid (P.out.below hb)
      replace H0 := Lib.hid (H0.out.below hb)
      replace Op4 := Lib.hid (Op4.out.below hb)
      replace Op5 := Lib.hid (Op5.out.below hb)
      replace B := Lib.hid (B.out.trans (hb.mono B.out.size))
      clear hb ho
      have Kp6 : mp6 ≤ 761 := by rw [← Lp6.out]; exact Nat.le_trans (digs_len9 ((mul_lt_pow V0.out HPK.out))) (by omega)
      clear hz
      go_wp2_with fail
      refine (number_c s3 _ _ Ss3.out zs3).mono ?_
      rintro e w6 ⟨Ap7, mp7, cp7, rfl, ho, hb⟩
      try simp only [val_digs 1000000000 (by omega)] at ho
      try rw [dval_decs] at ho
      have Op7 := Lib.hid (ho.limbs)
      have Lp7 := Lib.hid (ho.len)
      have Qp7 := Lib.hid (ho.cap)
      replace P := Lib.hid (P.out.below hb)
      replace H0 := Lib.hid (H0.out.below hb)
      replace Op4 := Lib.hid (Op4.out.below hb)
      replace Op5 := Lib.hid (Op5.out.below hb)
      replace Op6 := Lib.hid (Op6.out.below hb)
      replace B := Lib.hid (B.out.trans (hb.mono B.out.size))
      clear hb ho
      have Kp7 : mp7 ≤ 761 := by rw [← Lp7.out]; exact Nat.le_trans (digs_len9 ((mul_lt_pow V0.out HPK.out))) (by omega)
      go_wp2_with fail
      refine (same_c Ap6 Ap7 mp6 cp6 mp7 cp7 _ _ _ Op6.out Op7.out).mono ?_
      rw [decide_eq_true (rfl)]
      rintro e w7 ⟨rfl, hb⟩
      replace P := Lib.hid (P.out.below hb)
      replace H0 := Lib.hid (H0.out.below hb)
      replace Op4 := Lib.hid (Op4.out.below hb)
      replace Op5 := Lib.hid (Op5.out.below hb)
      replace Op6 := Lib.hid (Op6.out.below hb)
      replace Op7 := Lib.hid (Op7.out.below hb)
      replace B := Lib.hid (B.out.trans (hb.mono B.out.size))
      clear hb 
      clear Op6 Lp6 Kp6
      clear Op7 Lp7 Kp7
      go_wp2_with fail
      refine (number_c _ _ _ (Ss1.out.cut 0 T) (by simp; omega)).mono ?_
      rintro e w8 ⟨Ap8, mp8, cp8, rfl, ho, hb⟩
      rw [show List.drop 0 (List.take T (decs (val 1000000000 x0))) = decs (val 1000000000 x0 / 10 ^ K) from HQ.out, dval_decs] at ho
      have Op8 := Lib.hid (ho.limbs)
      have Lp8 := Lib.hid (ho.len)
      replace P := Lib.hid (P.out.below hb)
      replace H0 := Lib.hid (H0.out.below hb)
      replace Op4 := Lib.hid (Op4.out.below hb)
      replace Op5 := Lib.hid (Op5.out.below hb)
      replace B := Lib.hid (B.out.trans (hb.mono B.out.size))
      clear hb ho
      have Kp8 : mp8 ≤ 360 := by rw [← Lp8.out]; exact Nat.le_trans (digs_len9 ((Nat.lt_of_le_of_lt (Nat.div_le_self _ _) V0.out))) (by omega)
      go_wp2_with fail
      refine (same_c Ap4 Ap8 mp4 cp4 mp8 cp8 _ _ _ Op4.out Op8.out).mono ?_
      rw [decide_eq_true (rfl)]
      rintro e w9 ⟨rfl, hb⟩
      replace P := Lib.hid (P.out.below hb)
      replace H0 := Lib.hid (H0.out.below hb)
      replace Op4 := Lib.hid (Op4.out.below hb)
      replace Op5 := Lib.hid (Op5.out.below hb)
      replace Op8 := Lib.hid (Op8.out.below hb)
      replace B := Lib.hid (B.out.trans (hb.mono B.out.size))
      clear hb 
      clear Op4 Lp4 Kp4
      clear Op8 Lp8 Kp8
      go_wp2_with fail
      refine (number_c _ _ _ (Ss1.out.cut T s1.size) (by simp; omega)).mono ?_
      rintro e w10 ⟨Ap9, mp9, cp9, rfl, ho, hb⟩
      rw [List.take_of_length_le (by rw [← HSZ.out]; exact Nat.le_refl _), HR.out] at ho
      have Op9 := Lib.hid (ho.limbs)
      have Lp9 := Lib.hid (ho.len)
      replace P := Lib.hid (P.out.below hb)
      replace H0 := Lib.hid (H0.out.below hb)
      replace Op5 := Lib.hid (Op5.out.below hb)
      replace B := Lib.hid (B.out.trans (hb.mono B.out.size))
      clear hb ho
      have Kp9 : mp9 ≤ 360 := by rw [← Lp9.out]; exact Nat.le_trans (digs_len9 ((Nat.lt_of_le_of_lt (Nat.mod_le _ _) V0.out))) (by omega)
      go_wp2_with fail
      refine (same_c Ap5 Ap9 mp5 cp5 mp9 cp9 _ _ _ Op5.out Op9.out).mono ?_
      rw [decide_eq_true (rfl)]
      rintro e w11 ⟨rfl, hb⟩
      replace P := Lib.hid (P.out.below hb)
      replace H0 := Lib.hid (H0.out.below hb)
      replace Op5 := Lib.hid (Op5.out.below hb)
      replace Op9 := Lib.hid (Op9.out.below hb)
      replace B := Lib.hid (B.out.trans (hb.mono B.out.size))
      clear hb 
      go_wp2
      go_ret
      exact ⟨rfl, B.out⟩
end Go.Proofs.YtpbkndmciopnjaaDoor
