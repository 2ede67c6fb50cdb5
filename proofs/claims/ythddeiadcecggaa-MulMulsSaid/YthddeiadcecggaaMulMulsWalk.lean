/-
  MulMuls: the walk.
-/
import Derived.Test.YthddeiadcecggaaGood02
import Derived.Test.YthddeiadcecggaaAns02
import Derived.Test.YthddeiadcecggaaRefG
namespace Go.Proofs.Ythddeiadcecggaa
open Go.RowKit
set_option maxHeartbeats 2000000 in
set_option maxRecDepth 100000 in
theorem walk_mulMuls (a0 : Option Addr) (n0 c0 : Nat) (x0 : List Nat) (a1 : Option Addr) (n1 c1 : Nat) (x1 : List Nat) (w : World) (h0 : Limbs w a0 n0 x0) (h1 : Limbs w a1 n1 x1) :
    Calls Try.prog 3 #[.slice a0 n0 c0, .slice a1 n1 c1] w fun e w' => e = .returned (.bool true) ∧ Below w.heap.size w w' := by
  have B := Lib.hid (Below.refl w.heap.size w)
  have H0 := Lib.hid h0
  clear h0
  have H1 := Lib.hid h1
  clear h1
  have CG := good02_2_c a0 a1 n0 c0 n1 c1 x0 x1 w H0.out H1.out
  try simp only [World.size_alloc] at CG
  have hbA := (Below.refl (w).heap.size w).alloc (Nat.le_refl _) (.cells #[.slice a0 n0 c0, .slice a1 n1 c1] 22)
  replace H0 := Lib.hid (H0.out.below hbA)
  replace H1 := Lib.hid (H1.out.below hbA)
  replace B := Lib.hid (B.out.trans (hbA.mono B.out.size))
  clear hbA
  rcases hg : (Arg.mk a0 n0 c0 x0).fineL 30 && (Arg.mk a1 n1 c1 x1).fineL 30 with _ | _
  · rw [hg] at CG
    have HCG := Lib.hid CG
    clear CG hg
    go_enter Try.func3, Try.ntmps3
    go_wp2_with fail
    refine (HCG.out).mono ?_
    rintro e W ⟨rfl, rfl⟩
    clear HCG
    go_wp2_with fail
    refine (answers02_c _).mono ?_
    rintro e w1 ⟨rfl, hb⟩
    replace H0 := Lib.hid (H0.out.below hb)
    replace H1 := Lib.hid (H1.out.below hb)
    replace B := Lib.hid (B.out.trans (hb.mono B.out.size))
    clear hb 
    go_wp2
    go_ret
    exact ⟨rfl, B.out⟩
  · rw [hg] at CG
    have HCG := Lib.hid CG
    clear CG
    try simp only [Bool.and_eq_true] at hg
    have F0 := Arg.fineL_true hg.1
    simp only at F0
    have hn0 := F0.1
    have G0 := Lib.hid F0.2
    have V0 := Lib.hid (limbs_lt F0.2 (m := 30) (by rw [H0.out.len]; exact hn0))
    have F1 := Arg.fineL_true hg.2
    simp only at F1
    have hn1 := F1.1
    have G1 := Lib.hid F1.2
    have V1 := Lib.hid (limbs_lt F1.2 (m := 30) (by rw [H1.out.len]; exact hn1))
    clear hg F0 F1
    go_enter Try.func3, Try.ntmps3
    go_wp2_with fail
    refine (HCG.out).mono ?_
    rintro e W ⟨rfl, rfl⟩
    clear HCG
    go_wp2_with fail
    refine (answers02_c _).mono ?_
    rintro e w1 ⟨rfl, hb⟩
    replace H0 := Lib.hid (H0.out.below hb)
    replace H1 := Lib.hid (H1.out.below hb)
    replace B := Lib.hid (B.out.trans (hb.mono B.out.size))
    clear hb 
    go_wp2_with fail
    refine (mul_c a0 a1 n0 c0 n1 c1 x0 x1 _ H0.out H1.out G0.out G1.out (by omega) (by omega)).mono ?_
    rintro e w2 ⟨Ap1, mp1, cp1, rfl, ho, hb⟩
    try simp only [val_digs 1000000000 (by omega)] at ho
    have Op1 := Lib.hid (ho.limbs)
    have Lp1 := Lib.hid (ho.len)
    replace H0 := Lib.hid (H0.out.below hb)
    replace H1 := Lib.hid (H1.out.below hb)
    replace B := Lib.hid (B.out.trans (hb.mono B.out.size))
    clear hb ho
    have Kp1 : mp1 ≤ 540 := by rw [← Lp1.out]; exact Nat.le_trans (digs_len9 ((mul_lt_pow V0.out V1.out))) (by omega)
    go_wp2_with fail
    refine (text_c a0 n0 c0 x0 _ H0.out G0.out (by omega)).mono ?_
    rintro e w3 ⟨s2, rfl, hs, hb⟩
    try simp only [val_digs 1000000000 (by omega)] at hs
    have Ss2 := Lib.hid (hs)
    replace H0 := Lib.hid (H0.out.below hb)
    replace H1 := Lib.hid (H1.out.below hb)
    replace Op1 := Lib.hid (Op1.out.below hb)
    replace B := Lib.hid (B.out.trans (hb.mono B.out.size))
    clear hb hs
    have zs2 : s2.size ≤ 100000000 := by rw [Ss2.out.size]; exact Nat.le_trans (decs_len (V0.out)) (by omega)
    go_wp2_with fail
    refine (text_c a1 n1 c1 x1 _ H1.out G1.out (by omega)).mono ?_
    rintro e w4 ⟨s3, rfl, hs, hb⟩
    try simp only [val_digs 1000000000 (by omega)] at hs
    have Ss3 := Lib.hid (hs)
    replace H0 := Lib.hid (H0.out.below hb)
    replace H1 := Lib.hid (H1.out.below hb)
    replace Op1 := Lib.hid (Op1.out.below hb)
    replace B := Lib.hid (B.out.trans (hb.mono B.out.size))
    clear hb hs
    have zs3 : s3.size ≤ 100000000 := by rw [Ss3.out.size]; exact Nat.le_trans (decs_len (V1.out)) (by omega)
    go_wp2_with fail
    refine (times_c s2 s3 _ _ _ Ss2.out Ss3.out zs2 zs3).mono ?_
    rintro e w5 ⟨s4, rfl, hs, hb⟩
    rw [dval_decs, dval_decs] at hs
    have Ss4 := Lib.hid (hs)
    replace H0 := Lib.hid (H0.out.below hb)
    replace H1 := Lib.hid (H1.out.below hb)
    replace Op1 := Lib.hid (Op1.out.below hb)
    replace B := Lib.hid (B.out.trans (hb.mono B.out.size))
    clear hb hs
    have zs4 : s4.size ≤ 100000000 := by rw [Ss4.out.size]; exact Nat.le_trans (decs_len ((mul_lt_pow V0.out V1.out))) (by omega)
    go_wp2_with fail
    refine (number_c s4 _ _ Ss4.out zs4).mono ?_
    rintro e w6 ⟨Ap5, mp5, cp5, rfl, ho, hb⟩
    try simp only [val_digs 1000000000 (by omega)] at ho
    try rw [dval_decs] at ho
    have Op5 := Lib.hid (ho.limbs)
    have Lp5 := Lib.hid (ho.len)
    replace H0 := Lib.hid (H0.out.below hb)
    replace H1 := Lib.hid (H1.out.below hb)
    replace Op1 := Lib.hid (Op1.out.below hb)
    replace B := Lib.hid (B.out.trans (hb.mono B.out.size))
    clear hb ho
    have Kp5 : mp5 ≤ 540 := by rw [← Lp5.out]; exact Nat.le_trans (digs_len9 ((mul_lt_pow V0.out V1.out))) (by omega)
    go_wp2_with fail
    refine (same_c Ap1 Ap5 mp1 cp1 mp5 cp5 _ _ _ Op1.out Op5.out).mono ?_
    rw [decide_eq_true (rfl)]
    rintro e w7 ⟨rfl, hb⟩
    replace H0 := Lib.hid (H0.out.below hb)
    replace H1 := Lib.hid (H1.out.below hb)
    replace Op1 := Lib.hid (Op1.out.below hb)
    replace Op5 := Lib.hid (Op5.out.below hb)
    replace B := Lib.hid (B.out.trans (hb.mono B.out.size))
    clear hb 
    go_wp2
    go_ret
    exact ⟨rfl, B.out⟩
end Go.Proofs.Ythddeiadcecggaa
