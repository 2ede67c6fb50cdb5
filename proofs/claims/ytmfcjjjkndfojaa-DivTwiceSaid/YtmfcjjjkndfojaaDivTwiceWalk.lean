/-
  DivTwice: the walk.
-/
import Derived.Test.YtmfcjjjkndfojaaGood03
import Derived.Test.YtmfcjjjkndfojaaAns03
import Derived.Test.YtmfcjjjkndfojaaRefG
import Derived.Test.YtmfcjjjkndfojaaRefH
import Derived.Test.YtmfcjjjkndfojaaRefI
namespace Go.Proofs.Ytmfcjjjkndfojaa
open Go.RowKit
set_option maxHeartbeats 2000000 in
set_option maxRecDepth 100000 in
theorem walk_divTwice (a0 : Option Addr) (n0 c0 : Nat) (x0 : List Nat) (k1 : Nat) (k2 : Nat) (w : World) (h0 : Limbs w a0 n0 x0) (h1 : k1 < 4294967296) (h2 : k2 < 4294967296) :
    Calls Try.prog 7 #[.slice a0 n0 c0, .int .u32 (k1 : Int), .int .u32 (k2 : Int)] w fun e w' => e = .returned (.bool true) ∧ Below w.heap.size w w' := by
  have B := Lib.hid (Below.refl w.heap.size w)
  have H0 := Lib.hid h0
  clear h0
  have hbA := (Below.refl (w).heap.size w).alloc (Nat.le_refl _) (.cells #[.int .u32 (k1 : Int), .int .u32 (k2 : Int)] 32)
  replace H0 := Lib.hid (H0.out.below hbA)
  replace B := Lib.hid (B.out.trans (hbA.mono B.out.size))
  clear hbA
  have N1 := Lib.hid (show Limbs (w.alloc (.cells #[.int .u32 (k1 : Int), .int .u32 (k2 : Int)] 32)) (some ⟨w.heap.size, 0, none⟩) 2 [k1, k2] from limbs_cells2 w k1 k2 (by omega) (by omega))
  have CG := good03_2_c a0 (some ⟨w.heap.size, 0, none⟩) n0 c0 2 2 x0 [k1, k2] (w.alloc (.cells #[.int .u32 (k1 : Int), .int .u32 (k2 : Int)] 32)) H0.out N1.out
  try simp only [World.size_alloc] at CG
  have hbA := (Below.refl ((w.alloc (.cells #[.int .u32 (k1 : Int), .int .u32 (k2 : Int)] 32))).heap.size (w.alloc (.cells #[.int .u32 (k1 : Int), .int .u32 (k2 : Int)] 32))).alloc (Nat.le_refl _) (.cells #[.slice a0 n0 c0, .slice (some ⟨w.heap.size, 0, none⟩) 2 2] 22)
  replace H0 := Lib.hid (H0.out.below hbA)
  replace N1 := Lib.hid (N1.out.below hbA)
  replace B := Lib.hid (B.out.trans (hbA.mono B.out.size))
  clear hbA
  clear N1
  rcases hg : (Arg.mk a0 n0 c0 x0).fineL 20 && (Arg.mk (some ⟨w.heap.size, 0, none⟩) 2 2 [k1, k2]).fineL 20 with _ | _
  · rw [hg] at CG
    have HCG := Lib.hid CG
    clear CG hg
    go_enter Try.func7, Try.ntmps7
    go_wp2_with fail
    refine (HCG.out).mono ?_
    rintro e W ⟨rfl, rfl⟩
    clear HCG
    go_wp2_with fail
    refine (answers03_c _).mono ?_
    rintro e w1 ⟨rfl, hb⟩
    replace H0 := Lib.hid (H0.out.below hb)
    replace B := Lib.hid (B.out.trans (hb.mono B.out.size))
    clear hb 
    go_wp2
    go_ret
    exact ⟨rfl, B.out⟩
  · rw [hg] at CG
    have HCG := Lib.hid CG
    clear CG
    try simp only [Bool.and_eq_true] at hg
    have F0 := Arg.fineL_true hg.1
    simp only at F0
    have hn0 := F0.1
    have G0 := Lib.hid F0.2
    have V0 := Lib.hid (limbs_lt F0.2 (m := 20) (by rw [H0.out.len]; exact hn0))
    have F1 := Arg.fineL_true hg.2
    simp only at F1
    have hbk1 := F1.2 k1 (by simp)
    have hbk2 := F1.2 k2 (by simp)
    clear hg F0 F1
    go_enter Try.func7, Try.ntmps7
    go_wp2_with fail
    refine (HCG.out).mono ?_
    rintro e W ⟨rfl, rfl⟩
    clear HCG
    rcases Nat.eq_zero_or_pos k1 with hz | hz
    · subst hz
      go_wp2_with fail
      refine (answers03_c _).mono ?_
      rintro e w1 ⟨rfl, hb⟩
      replace H0 := Lib.hid (H0.out.below hb)
      replace B := Lib.hid (B.out.trans (hb.mono B.out.size))
      clear hb 
      go_wp2
      go_ret
      exact ⟨rfl, B.out⟩
    · have hz1 : ((k1 : Int) == 0) = false := by simp; omega
      rcases Nat.eq_zero_or_pos k2 with hy | hy
      · subst hy
        go_wp2_with fail
        refine (answers03_c _).mono ?_
        rintro e w1 ⟨rfl, hb⟩
        replace H0 := Lib.hid (H0.out.below hb)
        replace B := Lib.hid (B.out.trans (hb.mono B.out.size))
        clear hb 
        go_wp2
        go_ret
        exact ⟨rfl, B.out⟩
      · have hz2 : ((k2 : Int) == 0) = false := by simp; omega
        go_wp2_with fail
        refine (divSmall_c a0 n0 c0 x0 k1 _ H0.out G0.out (Nat.le_trans (by omega) (by omega)) hz hbk1).mono ?_
        rintro e w1 ⟨Ap2, mp2, cp2, rfl, ho, hb⟩
        try simp only [val_digs 1000000000 (by omega)] at ho
        have Op2 := Lib.hid (ho.limbs)
        have Lp2 := Lib.hid (ho.len)
        replace H0 := Lib.hid (H0.out.below hb)
        replace B := Lib.hid (B.out.trans (hb.mono B.out.size))
        clear hb ho
        have Kp2 : mp2 ≤ 180 := by rw [← Lp2.out]; exact Nat.le_trans (digs_len9 ((Nat.lt_of_le_of_lt (Nat.div_le_self _ _) V0.out))) (by omega)
        go_wp2_with fail
        refine (divSmall_c Ap2 mp2 cp2 _ k2 _ Op2.out (digs_lt 1000000000 (by omega) _) (Nat.le_trans (by omega) (by omega)) hy hbk2).mono ?_
        rintro e w2 ⟨Ap3, mp3, cp3, rfl, ho, hb⟩
        try simp only [val_digs 1000000000 (by omega)] at ho
        have Op3 := Lib.hid (ho.limbs)
        have Lp3 := Lib.hid (ho.len)
        replace H0 := Lib.hid (H0.out.below hb)
        replace Op2 := Lib.hid (Op2.out.below hb)
        replace B := Lib.hid (B.out.trans (hb.mono B.out.size))
        clear hb ho
        have Kp3 : mp3 ≤ 180 := by rw [← Lp3.out]; exact Nat.le_trans (digs_len9 ((Nat.lt_of_le_of_lt (Nat.div_le_self _ _) (Nat.lt_of_le_of_lt (Nat.div_le_self _ _) V0.out)))) (by omega)
        have hbA := (Below.refl (w2).heap.size w2).alloc (Nat.le_refl _) (.cells #[.int .u32 (k1 : Int)] 32)
        replace H0 := Lib.hid (H0.out.below hbA)
        replace Op2 := Lib.hid (Op2.out.below hbA)
        replace Op3 := Lib.hid (Op3.out.below hbA)
        replace B := Lib.hid (B.out.trans (hbA.mono B.out.size))
        clear hbA
        have N4 := Lib.hid (show Limbs (w2.alloc (.cells #[.int .u32 (k1 : Int)] 32)) (some ⟨w2.heap.size, 0, none⟩) 1 [k1] from limbs_new w2 k1 (by omega) _ rfl)
        go_wp2_with fail
        refine (text_c _ _ _ [k1] _ N4.out (by intro x hx; simp at hx; omega) (by omega)).mono ?_
        rintro e w3 ⟨s5, rfl, hs, hb⟩
        try simp only [val_digs 1000000000 (by omega)] at hs
        have Ss5 := Lib.hid (hs)
        replace H0 := Lib.hid (H0.out.below hb)
        replace Op2 := Lib.hid (Op2.out.below hb)
        replace Op3 := Lib.hid (Op3.out.below hb)
        replace N4 := Lib.hid (N4.out.below hb)
        replace B := Lib.hid (B.out.trans (hb.mono B.out.size))
        clear hb hs
        have zs5 : s5.size ≤ 100000000 := by rw [Ss5.out.size]; exact Nat.le_trans (decs_len ((limbs_lt (m := 1) (by intro x hx; simp at hx; omega) (by simp)))) (by omega)
        clear N4 
        have hbA := (Below.refl (w3).heap.size w3).alloc (Nat.le_refl _) (.cells #[.int .u32 (k2 : Int)] 32)
        replace H0 := Lib.hid (H0.out.below hbA)
        replace Op2 := Lib.hid (Op2.out.below hbA)
        replace Op3 := Lib.hid (Op3.out.below hbA)
        replace B := Lib.hid (B.out.trans (hbA.mono B.out.size))
        clear hbA
        have N6 := Lib.hid (show Limbs (w3.alloc (.cells #[.int .u32 (k2 : Int)] 32)) (some ⟨w3.heap.size, 0, none⟩) 1 [k2] from limbs_new w3 k2 (by omega) _ rfl)
        go_wp2_with fail
        refine (text_c _ _ _ [k2] _ N6.out (by intro x hx; simp at hx; omega) (by omega)).mono ?_
        rintro e w4 ⟨s7, rfl, hs, hb⟩
        try simp only [val_digs 1000000000 (by omega)] at hs
        have Ss7 := Lib.hid (hs)
        replace H0 := Lib.hid (H0.out.below hb)
        replace Op2 := Lib.hid (Op2.out.below hb)
        replace Op3 := Lib.hid (Op3.out.below hb)
        replace N6 := Lib.hid (N6.out.below hb)
        replace B := Lib.hid (B.out.trans (hb.mono B.out.size))
        clear hb hs
        have zs7 : s7.size ≤ 100000000 := by rw [Ss7.out.size]; exact Nat.le_trans (decs_len ((limbs_lt (m := 1) (by intro x hx; simp at hx; omega) (by simp)))) (by omega)
        clear N6 
        go_wp2_with fail
        refine (times_c s5 s7 _ _ _ Ss5.out Ss7.out zs5 zs7).mono ?_
        rintro e w5 ⟨s8, rfl, hs, hb⟩
        rw [dval_decs, dval_decs] at hs
        have Ss8 := Lib.hid (hs)
        replace H0 := Lib.hid (H0.out.below hb)
        replace Op2 := Lib.hid (Op2.out.below hb)
        replace Op3 := Lib.hid (Op3.out.below hb)
        replace B := Lib.hid (B.out.trans (hb.mono B.out.size))
        clear hb hs
        have zs8 : s8.size ≤ 100000000 := by rw [Ss8.out.size]; exact Nat.le_trans (decs_len ((mul_lt_pow (limbs_lt (m := 1) (by intro x hx; simp at hx; omega) (by simp)) (limbs_lt (m := 1) (by intro x hx; simp at hx; omega) (by simp))))) (by omega)
        go_wp2_with fail
        refine (number_c s8 _ _ Ss8.out zs8).mono ?_
        rintro e w6 ⟨Ap9, mp9, cp9, rfl, ho, hb⟩
        try simp only [val_digs 1000000000 (by omega)] at ho
        try rw [dval_decs] at ho
        have Op9 := Lib.hid (ho.limbs)
        have Lp9 := Lib.hid (ho.len)
        replace H0 := Lib.hid (H0.out.below hb)
        replace Op2 := Lib.hid (Op2.out.below hb)
        replace Op3 := Lib.hid (Op3.out.below hb)
        replace B := Lib.hid (B.out.trans (hb.mono B.out.size))
        clear hb ho
        have Kp9 : mp9 ≤ 18 := by rw [← Lp9.out]; exact Nat.le_trans (digs_len9 ((mul_lt_pow (limbs_lt (m := 1) (by intro x hx; simp at hx; omega) (by simp)) (limbs_lt (m := 1) (by intro x hx; simp at hx; omega) (by simp))))) (by omega)
        have HPOS := Lib.hid (show 0 < val 1000000000 [k1] * val 1000000000 [k2] by simp only [val, Nat.mul_zero, Nat.add_zero]; exact Nat.mul_pos hz hy)
        go_wp2_with fail
        refine (divMod_c a0 Ap9 n0 c0 mp9 cp9 x0 _ _ H0.out Op9.out G0.out (digs_lt 1000000000 (by omega) _) (by omega) (by omega) (by rw [val_digs 1000000000 (by omega)]; exact HPOS.out)).mono ?_
        rintro e w7 ⟨Ap10, mp10, cp10, Ap11, mp11, cp11, rfl, ho, ho2, hb⟩
        try simp only [val_digs 1000000000 (by omega)] at ho ho2
        have Op10 := Lib.hid (ho.limbs)
        have Lp10 := Lib.hid (ho.len)
        have Op11 := Lib.hid (ho2.limbs)
        have Lp11 := Lib.hid (ho2.len)
        replace H0 := Lib.hid (H0.out.below hb)
        replace Op2 := Lib.hid (Op2.out.below hb)
        replace Op3 := Lib.hid (Op3.out.below hb)
        replace Op9 := Lib.hid (Op9.out.below hb)
        replace B := Lib.hid (B.out.trans (hb.mono B.out.size))
        clear hb ho ho2
        have Kp10 : mp10 ≤ 180 := by rw [← Lp10.out]; exact Nat.le_trans (digs_len9 ((Nat.lt_of_le_of_lt (Nat.div_le_self _ _) V0.out))) (by omega)
        have Kp11 : mp11 ≤ 180 := by rw [← Lp11.out]; exact Nat.le_trans (digs_len9 ((Nat.lt_of_le_of_lt (Nat.mod_le _ _) V0.out))) (by omega)
        go_wp2_with fail
        refine (answers03_c _).mono ?_
        rintro e w8 ⟨rfl, hb⟩
        replace H0 := Lib.hid (H0.out.below hb)
        replace Op2 := Lib.hid (Op2.out.below hb)
        replace Op3 := Lib.hid (Op3.out.below hb)
        replace Op9 := Lib.hid (Op9.out.below hb)
        replace Op10 := Lib.hid (Op10.out.below hb)
        replace Op11 := Lib.hid (Op11.out.below hb)
        replace B := Lib.hid (B.out.trans (hb.mono B.out.size))
        clear hb 
        go_wp2_with fail
        refine (same_c Ap3 Ap10 mp3 cp3 mp10 cp10 _ _ _ Op3.out Op10.out).mono ?_
        rw [decide_eq_true (congrArg (digs 1000000000) (by simp [val, Nat.div_div_eq_div_mul]))]
        rintro e w9 ⟨rfl, hb⟩
        replace H0 := Lib.hid (H0.out.below hb)
        replace Op2 := Lib.hid (Op2.out.below hb)
        replace Op3 := Lib.hid (Op3.out.below hb)
        replace Op9 := Lib.hid (Op9.out.below hb)
        replace Op10 := Lib.hid (Op10.out.below hb)
        replace Op11 := Lib.hid (Op11.out.below hb)
        replace B := Lib.hid (B.out.trans (hb.mono B.out.size))
        clear hb 
        go_wp2
        go_ret
        exact ⟨rfl, B.out⟩
end Go.Proofs.Ytmfcjjjkndfojaa
