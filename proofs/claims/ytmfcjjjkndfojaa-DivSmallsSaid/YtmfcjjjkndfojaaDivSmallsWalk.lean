/-
  DivSmalls: the walk.
-/
import Derived.Test.YtmfcjjjkndfojaaGood03
import Derived.Test.YtmfcjjjkndfojaaAns03
import Derived.Test.YtmfcjjjkndfojaaRefG
import Derived.Test.YtmfcjjjkndfojaaRefH
import Derived.Test.YtmfcjjjkndfojaaRefI
namespace Go.Proofs.Ytmfcjjjkndfojaa
open Go.RowKit
set_option maxHeartbeats 2000000 in
set_option maxRecDepth 100000 in
theorem walk_divSmalls (a0 : Option Addr) (n0 c0 : Nat) (x0 : List Nat) (k1 : Nat) (w : World) (h0 : Limbs w a0 n0 x0) (h1 : k1 < 4294967296) :
    Calls Try.prog 4 #[.slice a0 n0 c0, .int .u32 (k1 : Int)] w fun e w' => e = .returned (.bool true) ∧ Below w.heap.size w w' := by
  have B := Lib.hid (Below.refl w.heap.size w)
  have H0 := Lib.hid h0
  clear h0
  have hbA := (Below.refl (w).heap.size w).alloc (Nat.le_refl _) (.cells #[.int .u32 (k1 : Int)] 32)
  replace H0 := Lib.hid (H0.out.below hbA)
  replace B := Lib.hid (B.out.trans (hbA.mono B.out.size))
  clear hbA
  have N1 := Lib.hid (show Limbs (w.alloc (.cells #[.int .u32 (k1 : Int)] 32)) (some ⟨w.heap.size, 0, none⟩) 1 [k1] from limbs_new w k1 (by omega) _ rfl)
  have CG := good03_2_c a0 (some ⟨w.heap.size, 0, none⟩) n0 c0 1 1 x0 [k1] (w.alloc (.cells #[.int .u32 (k1 : Int)] 32)) H0.out N1.out
  try simp only [World.size_alloc] at CG
  have hbA := (Below.refl ((w.alloc (.cells #[.int .u32 (k1 : Int)] 32))).heap.size (w.alloc (.cells #[.int .u32 (k1 : Int)] 32))).alloc (Nat.le_refl _) (.cells #[.slice a0 n0 c0, .slice (some ⟨w.heap.size, 0, none⟩) 1 1] 22)
  replace H0 := Lib.hid (H0.out.below hbA)
  replace N1 := Lib.hid (N1.out.below hbA)
  replace B := Lib.hid (B.out.trans (hbA.mono B.out.size))
  clear hbA
  clear N1
  rcases hg : (Arg.mk a0 n0 c0 x0).fineL 20 && (Arg.mk (some ⟨w.heap.size, 0, none⟩) 1 1 [k1]).fineL 20 with _ | _
  · rw [hg] at CG
    have HCG := Lib.hid CG
    clear CG hg
    go_enter Try.func4, Try.ntmps4
    go_wp2_with fail
    refine (HCG.out).mono ?_
    rintro e W ⟨rfl, rfl⟩
    clear HCG
    go_wp2_with fail
    refine (answers03_c _).mono ?_
    rintro e w1 ⟨rfl, hb⟩
    replace H0 := Lib.hid (H0.out.below hb)
    replace B := Lib.hid (B.out.trans (hb.mono B.out.size))
    clear hb 
    go_wp2
    go_ret
    exact ⟨rfl, B.out⟩
  · rw [hg] at CG
    have HCG := Lib.hid CG
    clear CG
    try simp only [Bool.and_eq_true] at hg
    have F0 := Arg.fineL_true hg.1
    simp only at F0
    have hn0 := F0.1
    have G0 := Lib.hid F0.2
    have V0 := Lib.hid (limbs_lt F0.2 (m := 20) (by rw [H0.out.len]; exact hn0))
    have F1 := Arg.fineL_true hg.2
    simp only at F1
    have hbk1 := F1.2 k1 (by simp)
    clear hg F0 F1
    go_enter Try.func4, Try.ntmps4
    go_wp2_with fail
    refine (HCG.out).mono ?_
    rintro e W ⟨rfl, rfl⟩
    clear HCG
    rcases Nat.eq_zero_or_pos k1 with hz | hz
    · subst hz
      go_wp2_with fail
      refine (divSmall_zero a0 n0 c0 _).mono ?_
      rintro e w1 ⟨rfl, hb⟩
      replace H0 := Lib.hid (H0.out.below hb)
      replace B := Lib.hid (B.out.trans (hb.mono B.out.size))
      clear hb 
      go_wp2_with fail
      refine (answers03_c _).mono ?_
      rintro e w2 ⟨rfl, hb⟩
      replace H0 := Lib.hid (H0.out.below hb)
      replace B := Lib.hid (B.out.trans (hb.mono B.out.size))
      clear hb 
      go_wp2
      go_ret
      exact ⟨rfl, B.out⟩
    · have hzb : ((k1 : Int) == 0) = false := by simp; omega
      have hrb : val 1000000000 x0 % k1 < 1000000000 := Nat.lt_of_lt_of_le (Nat.mod_lt _ hz) (by omega)
      go_wp2_with fail
      refine (divSmall_c a0 n0 c0 x0 k1 _ H0.out G0.out (by omega) hz hbk1).mono ?_
      generalize hR : val 1000000000 x0 % k1 = R at *
      have HR := Lib.hid hR
      clear hR
      rintro e w1 ⟨Ap2, mp2, cp2, rfl, ho, hb⟩
      try simp only [val_digs 1000000000 (by omega)] at ho
      have Op2 := Lib.hid (ho.limbs)
      have Lp2 := Lib.hid (ho.len)
      replace H0 := Lib.hid (H0.out.below hb)
      replace B := Lib.hid (B.out.trans (hb.mono B.out.size))
      clear hb ho
      have Kp2 : mp2 ≤ 180 := by rw [← Lp2.out]; exact Nat.le_trans (digs_len9 ((Nat.lt_of_le_of_lt (Nat.div_le_self _ _) V0.out))) (by omega)
      go_wp2_with fail
      refine (text_c a0 n0 c0 x0 _ H0.out G0.out (by omega)).mono ?_
      rintro e w2 ⟨s3, rfl, hs, hb⟩
      try simp only [val_digs 1000000000 (by omega)] at hs
      have Ss3 := Lib.hid (hs)
      replace H0 := Lib.hid (H0.out.below hb)
      replace Op2 := Lib.hid (Op2.out.below hb)
      replace B := Lib.hid (B.out.trans (hb.mono B.out.size))
      clear hb hs
      have zs3 : s3.size ≤ 100000000 := by rw [Ss3.out.size]; exact Nat.le_trans (decs_len (V0.out)) (by omega)
      have hbA := (Below.refl (w2).heap.size w2).alloc (Nat.le_refl _) (.cells #[.int .u32 (k1 : Int)] 32)
      replace H0 := Lib.hid (H0.out.below hbA)
      replace Op2 := Lib.hid (Op2.out.below hbA)
      replace B := Lib.hid (B.out.trans (hbA.mono B.out.size))
      clear hbA
      have N4 := Lib.hid (show Limbs (w2.alloc (.cells #[.int .u32 (k1 : Int)] 32)) (some ⟨w2.heap.size, 0, none⟩) 1 [k1] from limbs_new w2 k1 (by omega) _ rfl)
      go_wp2_with fail
      refine (text_c _ _ _ [k1] _ N4.out (by intro x hx; simp at hx; omega) (by omega)).mono ?_
      rintro e w3 ⟨s5, rfl, hs, hb⟩
      try simp only [val_digs 1000000000 (by omega)] at hs
      have Ss5 := Lib.hid (hs)
      replace H0 := Lib.hid (H0.out.below hb)
      replace Op2 := Lib.hid (Op2.out.below hb)
      replace N4 := Lib.hid (N4.out.below hb)
      replace B := Lib.hid (B.out.trans (hb.mono B.out.size))
      clear hb hs
      have zs5 : s5.size ≤ 100000000 := by rw [Ss5.out.size]; exact Nat.le_trans (decs_len ((limbs_lt (m := 1) (by intro x hx; simp at hx; omega) (by simp)))) (by omega)
      clear N4 
      go_wp2_with fail
      refine (over_c s3 s5 _ _ _ Ss3.out Ss5.out (by rw [Ss3.out.size]; exact Nat.le_trans (decs_len (V0.out)) (by omega)) (by rw [Ss5.out.size]; exact Nat.le_trans (decs_len ((limbs_lt (m := 1) (by intro x hx; simp at hx; omega) (by simp)))) (by omega)) (by simpa [val] using hz)).mono ?_
      rintro e w4 ⟨s6, s7, rfl, hs, hs2, hb⟩
      rw [dval_decs] at hs hs2
      have Ss6 := Lib.hid (hs)
      have Ss7 := Lib.hid (hs2)
      replace H0 := Lib.hid (H0.out.below hb)
      replace Op2 := Lib.hid (Op2.out.below hb)
      replace B := Lib.hid (B.out.trans (hb.mono B.out.size))
      clear hb hs hs2
      have zs6 : s6.size ≤ 100000000 := by rw [Ss6.out.size]; exact Nat.le_trans (decs_len ((Nat.lt_of_le_of_lt (Nat.div_le_self _ _) V0.out))) (by omega)
      have zs7 : s7.size ≤ 100000000 := by rw [Ss7.out.size]; exact Nat.le_trans (decs_len ((Nat.lt_of_le_of_lt (Nat.mod_le _ _) V0.out))) (by omega)
      go_wp2_with fail
      refine (answers03_c _).mono ?_
      rintro e w5 ⟨rfl, hb⟩
      replace H0 := Lib.hid (H0.out.below hb)
      replace Op2 := Lib.hid (Op2.out.below hb)
      replace B := Lib.hid (B.out.trans (hb.mono B.out.size))
      clear hb 
      go_wp2_with fail
      refine (number_c s6 _ _ Ss6.out zs6).mono ?_
      rintro e w6 ⟨Ap8, mp8, cp8, rfl, ho, hb⟩
      try simp only [val_digs 1000000000 (by omega)] at ho
      try rw [dval_decs] at ho
      have Op8 := Lib.hid (ho.limbs)
      have Lp8 := Lib.hid (ho.len)
      replace H0 := Lib.hid (H0.out.below hb)
      replace Op2 := Lib.hid (Op2.out.below hb)
      replace B := Lib.hid (B.out.trans (hb.mono B.out.size))
      clear hb ho
      have Kp8 : mp8 ≤ 180 := by rw [← Lp8.out]; exact Nat.le_trans (digs_len9 ((Nat.lt_of_le_of_lt (Nat.div_le_self _ _) V0.out))) (by omega)
      go_wp2_with fail
      refine (same_c Ap2 Ap8 mp2 cp2 mp8 cp8 _ _ _ Op2.out Op8.out).mono ?_
      rw [decide_eq_true (congrArg (digs 1000000000) (by simp [val]))]
      rintro e w7 ⟨rfl, hb⟩
      replace H0 := Lib.hid (H0.out.below hb)
      replace Op2 := Lib.hid (Op2.out.below hb)
      replace Op8 := Lib.hid (Op8.out.below hb)
      replace B := Lib.hid (B.out.trans (hb.mono B.out.size))
      clear hb 
      clear Op2 Lp2 Kp2
      clear Op8 Lp8 Kp8
      have hbA := (Below.refl (w7).heap.size w7).alloc (Nat.le_refl _) (.cells #[.int .u32 (R : Int)] 32)
      replace H0 := Lib.hid (H0.out.below hbA)
      replace B := Lib.hid (B.out.trans (hbA.mono B.out.size))
      clear hbA
      have N9 := Lib.hid (show Limbs (w7.alloc (.cells #[.int .u32 (R : Int)] 32)) (some ⟨w7.heap.size, 0, none⟩) 1 [R] from limbs_new w7 R (by omega) _ rfl)
      go_wp2_with fail
      refine (text_c _ _ _ [R] _ N9.out (by intro x hx; simp at hx; omega) (by omega)).mono ?_
      rintro e w8 ⟨s10, rfl, hs, hb⟩
      try simp only [val_digs 1000000000 (by omega)] at hs
      have Ss10 := Lib.hid (hs)
      replace H0 := Lib.hid (H0.out.below hb)
      replace N9 := Lib.hid (N9.out.below hb)
      replace B := Lib.hid (B.out.trans (hb.mono B.out.size))
      clear hb hs
      have zs10 : s10.size ≤ 100000000 := by rw [Ss10.out.size]; exact Nat.le_trans (decs_len ((limbs_lt (m := 1) (by intro x hx; simp at hx; omega) (by simp)))) (by omega)
      clear N9 
      obtain rfl : s10 = s7 := IsD.ext Ss10.out (by have h := Ss7.out; rw [show val 1000000000 [k1] = k1 by simp [val], HR.out] at h; rw [show val 1000000000 [R] = R by simp [val]]; exact h)
      go_wp2
      go_ret
      exact ⟨rfl, B.out⟩
end Go.Proofs.Ytmfcjjjkndfojaa
