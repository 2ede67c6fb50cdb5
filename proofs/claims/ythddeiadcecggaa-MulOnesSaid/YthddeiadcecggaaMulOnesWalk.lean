/-
  MulOnes: the walk.
-/
import Derived.Test.YthddeiadcecggaaGood02
import Derived.Test.YthddeiadcecggaaAns02
import Derived.Test.YthddeiadcecggaaRefG
namespace Go.Proofs.Ythddeiadcecggaa
open Go.RowKit
set_option maxHeartbeats 2000000 in
set_option maxRecDepth 100000 in
theorem walk_mulOnes (a0 : Option Addr) (n0 c0 : Nat) (x0 : List Nat) (k1 : Nat) (w : World) (h0 : Limbs w a0 n0 x0) (h1 : k1 < 4294967296) :
    Calls Try.prog 7 #[.slice a0 n0 c0, .int .u32 (k1 : Int)] w fun e w' => e = .returned (.bool true) ∧ Below w.heap.size w w' := by
  have B := Lib.hid (Below.refl w.heap.size w)
  have H0 := Lib.hid h0
  clear h0
  have hbA := (Below.refl (w).heap.size w).alloc (Nat.le_refl _) (.cells #[.int .u32 (k1 : Int)] 30)
  replace H0 := Lib.hid (H0.out.below hbA)
  replace B := Lib.hid (B.out.trans (hbA.mono B.out.size))
  clear hbA
  have N1 := Lib.hid (show Limbs (w.alloc (.cells #[.int .u32 (k1 : Int)] 30)) (some ⟨w.heap.size, 0, none⟩) 1 [k1] from limbs_new w k1 (by omega) _ rfl)
  have CG := good02_2_c a0 (some ⟨w.heap.size, 0, none⟩) n0 c0 1 1 x0 [k1] (w.alloc (.cells #[.int .u32 (k1 : Int)] 30)) H0.out N1.out
  try simp only [World.size_alloc] at CG
  have hbA := (Below.refl ((w.alloc (.cells #[.int .u32 (k1 : Int)] 30))).heap.size (w.alloc (.cells #[.int .u32 (k1 : Int)] 30))).alloc (Nat.le_refl _) (.cells #[.slice a0 n0 c0, .slice (some ⟨w.heap.size, 0, none⟩) 1 1] 22)
  replace H0 := Lib.hid (H0.out.below hbA)
  replace N1 := Lib.hid (N1.out.below hbA)
  replace B := Lib.hid (B.out.trans (hbA.mono B.out.size))
  clear hbA
  clear N1
  rcases hg : (Arg.mk a0 n0 c0 x0).fineL 30 && (Arg.mk (some ⟨w.heap.size, 0, none⟩) 1 1 [k1]).fineL 30 with _ | _
  · rw [hg] at CG
    have HCG := Lib.hid CG
    clear CG hg
    go_enter Try.func7, Try.ntmps7
    go_wp2_with fail
    refine (HCG.out).mono ?_
    rintro e W ⟨rfl, rfl⟩
    clear HCG
    go_wp2_with fail
    refine (answers02_c _).mono ?_
    rintro e w1 ⟨rfl, hb⟩
    replace H0 := Lib.hid (H0.out.below hb)
    replace B := Lib.hid (B.out.trans (hb.mono B.out.size))
    clear hb 
    go_wp2
    go_ret
    exact ⟨rfl, B.out⟩
  · rw [hg] at CG
    have HCG := Lib.hid CG
    clear CG
    try simp only [Bool.and_eq_true] at hg
    have F0 := Arg.fineL_true hg.1
    simp only at F0
    have hn0 := F0.1
    have G0 := Lib.hid F0.2
    have V0 := Lib.hid (limbs_lt F0.2 (m := 30) (by rw [H0.out.len]; exact hn0))
    have F1 := Arg.fineL_true hg.2
    simp only at F1
    have hbk1 := F1.2 k1 (by simp)
    clear hg F0 F1
    go_enter Try.func7, Try.ntmps7
    go_wp2_with fail
    refine (HCG.out).mono ?_
    rintro e W ⟨rfl, rfl⟩
    clear HCG
    go_wp2_with fail
    refine (answers02_c _).mono ?_
    rintro e w1 ⟨rfl, hb⟩
    replace H0 := Lib.hid (H0.out.below hb)
    replace B := Lib.hid (B.out.trans (hb.mono B.out.size))
    clear hb 
    have hbA := (Below.refl (w1).heap.size w1).alloc (Nat.le_refl _) (.cells #[.int .u32 1] 30)
    replace H0 := Lib.hid (H0.out.below hbA)
    replace B := Lib.hid (B.out.trans (hbA.mono B.out.size))
    clear hbA
    have N2 := Lib.hid (show Limbs (w1.alloc (.cells #[.int .u32 1] 30)) (some ⟨w1.heap.size, 0, none⟩) 1 [1] from limbs_new w1 1 (by omega) _ rfl)
    go_wp2_with fail
    refine (mul_c a0 _ n0 c0 _ _ x0 [1] _ H0.out N2.out G0.out (by intro x hx; simp at hx; omega) (by omega) (by omega)).mono ?_
    rintro e w2 ⟨Ap3, mp3, cp3, rfl, ho, hb⟩
    try simp only [val_digs 1000000000 (by omega)] at ho
    have Op3 := Lib.hid (ho.limbs)
    have Lp3 := Lib.hid (ho.len)
    replace H0 := Lib.hid (H0.out.below hb)
    replace N2 := Lib.hid (N2.out.below hb)
    replace B := Lib.hid (B.out.trans (hb.mono B.out.size))
    clear hb ho
    have Kp3 : mp3 ≤ 279 := by rw [← Lp3.out]; exact Nat.le_trans (digs_len9 ((mul_lt_pow V0.out (limbs_lt (m := 1) (by intro x hx; simp at hx; omega) (by simp))))) (by omega)
    clear N2 
    go_wp2_with fail
    refine (text_c a0 n0 c0 x0 _ H0.out G0.out (by omega)).mono ?_
    rintro e w3 ⟨s4, rfl, hs, hb⟩
    try simp only [val_digs 1000000000 (by omega)] at hs
    have Ss4 := Lib.hid (hs)
    replace H0 := Lib.hid (H0.out.below hb)
    replace Op3 := Lib.hid (Op3.out.below hb)
    replace B := Lib.hid (B.out.trans (hb.mono B.out.size))
    clear hb hs
    have zs4 : s4.size ≤ 100000000 := by rw [Ss4.out.size]; exact Nat.le_trans (decs_len (V0.out)) (by omega)
    go_wp2_with fail
    refine (number_c s4 _ _ Ss4.out zs4).mono ?_
    rintro e w4 ⟨Ap5, mp5, cp5, rfl, ho, hb⟩
    try simp only [val_digs 1000000000 (by omega)] at ho
    try rw [dval_decs] at ho
    have Op5 := Lib.hid (ho.limbs)
    have Lp5 := Lib.hid (ho.len)
    replace H0 := Lib.hid (H0.out.below hb)
    replace Op3 := Lib.hid (Op3.out.below hb)
    replace B := Lib.hid (B.out.trans (hb.mono B.out.size))
    clear hb ho
    have Kp5 : mp5 ≤ 270 := by rw [← Lp5.out]; exact Nat.le_trans (digs_len9 (V0.out)) (by omega)
    go_wp2_with fail
    refine (same_c Ap3 Ap5 mp3 cp3 mp5 cp5 _ _ _ Op3.out Op5.out).mono ?_
    rw [decide_eq_true (congrArg (digs 1000000000) (by simp [val]))]
    rintro e w5 ⟨rfl, hb⟩
    replace H0 := Lib.hid (H0.out.below hb)
    replace Op3 := Lib.hid (Op3.out.below hb)
    replace Op5 := Lib.hid (Op5.out.below hb)
    replace B := Lib.hid (B.out.trans (hb.mono B.out.size))
    clear hb 
    clear Op3 Lp3 Kp3
    clear Op5 Lp5 Kp5
    go_wp2_with fail
    refine (small_c a0 n0 c0 x0 0 0 _ H0.out G0.out (by omega) (by omega) (by omega)).mono ?_
    rintro e w6 ⟨An, mn, cn, rfl, ho, hb⟩
    simp only [Nat.mul_zero, Nat.zero_add, digs_zero] at ho
    obtain rfl : mn = 0 := ho.len.symm
    replace H0 := Lib.hid (H0.out.below hb)
    replace B := Lib.hid (B.out.trans (hb.mono B.out.size))
    clear hb ho
    go_wp2_with fail
    refine (small_c a0 n0 c0 x0 k1 0 _ H0.out G0.out (Nat.le_trans (by omega) (by omega)) hbk1 (by omega)).mono ?_
    rintro e w7 ⟨Ap6, mp6, cp6, rfl, ho, hb⟩
    try simp only [val_digs 1000000000 (by omega)] at ho
    have Op6 := Lib.hid (ho.limbs)
    have Lp6 := Lib.hid (ho.len)
    replace H0 := Lib.hid (H0.out.below hb)
    replace B := Lib.hid (B.out.trans (hb.mono B.out.size))
    clear hb ho
    have Kp6 : mp6 ≤ 280 := by rw [← Lp6.out]; exact Nat.le_trans (digs_len9 ((small_lt V0.out hbk1 (by omega)))) (by omega)
    have hbA := (Below.refl (w7).heap.size w7).alloc (Nat.le_refl _) (.cells #[.int .u32 (k1 : Int)] 30)
    replace H0 := Lib.hid (H0.out.below hbA)
    replace Op6 := Lib.hid (Op6.out.below hbA)
    replace B := Lib.hid (B.out.trans (hbA.mono B.out.size))
    clear hbA
    have N7 := Lib.hid (show Limbs (w7.alloc (.cells #[.int .u32 (k1 : Int)] 30)) (some ⟨w7.heap.size, 0, none⟩) 1 [k1] from limbs_new w7 k1 (by omega) _ rfl)
    go_wp2_with fail
    refine (mul_c _ a0 _ _ n0 c0 [k1] x0 _ N7.out H0.out (by intro x hx; simp at hx; omega) G0.out (by omega) (by omega)).mono ?_
    rintro e w8 ⟨Ap8, mp8, cp8, rfl, ho, hb⟩
    try simp only [val_digs 1000000000 (by omega)] at ho
    have Op8 := Lib.hid (ho.limbs)
    have Lp8 := Lib.hid (ho.len)
    replace H0 := Lib.hid (H0.out.below hb)
    replace Op6 := Lib.hid (Op6.out.below hb)
    replace N7 := Lib.hid (N7.out.below hb)
    replace B := Lib.hid (B.out.trans (hb.mono B.out.size))
    clear hb ho
    have Kp8 : mp8 ≤ 279 := by rw [← Lp8.out]; exact Nat.le_trans (digs_len9 ((mul_lt_pow (limbs_lt (m := 1) (by intro x hx; simp at hx; omega) (by simp)) V0.out))) (by omega)
    clear N7 
    go_wp2_with fail
    refine (same_c Ap6 Ap8 mp6 cp6 mp8 cp8 _ _ _ Op6.out Op8.out).mono ?_
    rw [decide_eq_true (congrArg (digs 1000000000) (by simp [val, Nat.mul_comm]))]
    rintro e w9 ⟨rfl, hb⟩
    replace H0 := Lib.hid (H0.out.below hb)
    replace Op6 := Lib.hid (Op6.out.below hb)
    replace Op8 := Lib.hid (Op8.out.below hb)
    replace B := Lib.hid (B.out.trans (hb.mono B.out.size))
    clear hb 
    clear Op6 Lp6 Kp6
    clear Op8 Lp8 Kp8
    go_wp2_with fail
    refine (small_c a0 n0 c0 x0 1 0 _ H0.out G0.out (Nat.le_trans (by omega) (by omega)) (by omega) (by omega)).mono ?_
    rintro e w10 ⟨Ap9, mp9, cp9, rfl, ho, hb⟩
    try simp only [val_digs 1000000000 (by omega)] at ho
    have Op9 := Lib.hid (ho.limbs)
    have Lp9 := Lib.hid (ho.len)
    replace H0 := Lib.hid (H0.out.below hb)
    replace B := Lib.hid (B.out.trans (hb.mono B.out.size))
    clear hb ho
    have Kp9 : mp9 ≤ 280 := by rw [← Lp9.out]; exact Nat.le_trans (digs_len9 ((small_lt V0.out (by omega) (by omega)))) (by omega)
    have hbA := (Below.refl (w10).heap.size w10).alloc (Nat.le_refl _) (.cells #[.int .u32 1, .int .u32 0] 30)
    replace H0 := Lib.hid (H0.out.below hbA)
    replace Op9 := Lib.hid (Op9.out.below hbA)
    replace B := Lib.hid (B.out.trans (hbA.mono B.out.size))
    clear hbA
    have N10 := Lib.hid (show Limbs (w10.alloc (.cells #[.int .u32 1, .int .u32 0] 30)) (some ⟨w10.heap.size, 0, none⟩) 2 [1, 0] from limbs_new2 w10 1 0 (by omega) (by omega) _ _ rfl rfl)
    go_wp2_with fail
    refine (mul_c a0 _ n0 c0 _ _ x0 [1, 0] _ H0.out N10.out G0.out (by intro x hx; simp at hx; omega) (by omega) (by omega)).mono ?_
    rintro e w11 ⟨Ap11, mp11, cp11, rfl, ho, hb⟩
    try simp only [val_digs 1000000000 (by omega)] at ho
    have Op11 := Lib.hid (ho.limbs)
    have Lp11 := Lib.hid (ho.len)
    replace H0 := Lib.hid (H0.out.below hb)
    replace Op9 := Lib.hid (Op9.out.below hb)
    replace N10 := Lib.hid (N10.out.below hb)
    replace B := Lib.hid (B.out.trans (hb.mono B.out.size))
    clear hb ho
    have Kp11 : mp11 ≤ 288 := by rw [← Lp11.out]; exact Nat.le_trans (digs_len9 ((mul_lt_pow V0.out (limbs_lt (m := 2) (by intro x hx; simp at hx; omega) (by simp))))) (by omega)
    clear N10 
    go_wp2_with fail
    refine (same_c Ap9 Ap11 mp9 cp9 mp11 cp11 _ _ _ Op9.out Op11.out).mono ?_
    rw [decide_eq_true (congrArg (digs 1000000000) (by simp [val]))]
    rintro e w12 ⟨rfl, hb⟩
    replace H0 := Lib.hid (H0.out.below hb)
    replace Op9 := Lib.hid (Op9.out.below hb)
    replace Op11 := Lib.hid (Op11.out.below hb)
    replace B := Lib.hid (B.out.trans (hb.mono B.out.size))
    clear hb 
    go_wp2
    go_ret
    exact ⟨rfl, B.out⟩
end Go.Proofs.Ythddeiadcecggaa
