/-
  MulSmalls: the walk.
-/
import Derived.Test.YthddeiadcecggaaGood02
import Derived.Test.YthddeiadcecggaaAns02
import Derived.Test.YthddeiadcecggaaRefG
namespace Go.Proofs.Ythddeiadcecggaa
open Go.RowKit
set_option maxHeartbeats 2000000 in
set_option maxRecDepth 100000 in
theorem walk_mulSmalls (a0 : Option Addr) (n0 c0 : Nat) (x0 : List Nat) (k1 : Nat) (k2 : Nat) (w : World) (h0 : Limbs w a0 n0 x0) (h1 : k1 < 4294967296) (h2 : k2 < 4294967296) :
    Calls Try.prog 4 #[.slice a0 n0 c0, .int .u32 (k1 : Int), .int .u32 (k2 : Int)] w fun e w' => e = .returned (.bool true) ∧ Below w.heap.size w w' := by
  have B := Lib.hid (Below.refl w.heap.size w)
  have H0 := Lib.hid h0
  clear h0
  have hbA := (Below.refl (w).heap.size w).alloc (Nat.le_refl _) (.cells #[.int .u32 (k1 : Int), .int .u32 (k2 : Int)] 30)
  replace H0 := Lib.hid (H0.out.below hbA)
  replace B := Lib.hid (B.out.trans (hbA.mono B.out.size))
  clear hbA
  have N1 := Lib.hid (show Limbs (w.alloc (.cells #[.int .u32 (k1 : Int), .int .u32 (k2 : Int)] 30)) (some ⟨w.heap.size, 0, none⟩) 2 [k1, k2] from limbs_cells2 w k1 k2 (by omega) (by omega))
  have CG := good02_2_c a0 (some ⟨w.heap.size, 0, none⟩) n0 c0 2 2 x0 [k1, k2] (w.alloc (.cells #[.int .u32 (k1 : Int), .int .u32 (k2 : Int)] 30)) H0.out N1.out
  try simp only [World.size_alloc] at CG
  have hbA := (Below.refl ((w.alloc (.cells #[.int .u32 (k1 : Int), .int .u32 (k2 : Int)] 30))).heap.size (w.alloc (.cells #[.int .u32 (k1 : Int), .int .u32 (k2 : Int)] 30))).alloc (Nat.le_refl _) (.cells #[.slice a0 n0 c0, .slice (some ⟨w.heap.size, 0, none⟩) 2 2] 22)
  replace H0 := Lib.hid (H0.out.below hbA)
  replace N1 := Lib.hid (N1.out.below hbA)
  replace B := Lib.hid (B.out.trans (hbA.mono B.out.size))
  clear hbA
  clear N1
  rcases hg : (Arg.mk a0 n0 c0 x0).fineL 30 && (Arg.mk (some ⟨w.heap.size, 0, none⟩) 2 2 [k1, k2]).fineL 30 with _ | _
  · rw [hg] at CG
    have HCG := Lib.hid CG
    clear CG hg
    go_enter Try.func4, Try.ntmps4
    go_wp2_with fail
    refine (HCG.out).mono ?_
    rintro e W ⟨rfl, rfl⟩
    clear HCG
    go_wp2_with fail
    refine (answers02_c _).mono ?_
    rintro e w1 ⟨rfl, hb⟩
    replace H0 := Lib.hid (H0.out.below hb)
    replace B := Lib.hid (B.out.trans (hb.mono B.out.size))
    clear hb 
    go_wp2
    go_ret
    exact ⟨rfl, B.out⟩
  · rw [hg] at CG
    have HCG := Lib.hid CG
    clear CG
    try simp only [Bool.and_eq_true] at hg
    have F0 := Arg.fineL_true hg.1
    simp only at F0
    have hn0 := F0.1
    have G0 := Lib.hid F0.2
    have V0 := Lib.hid (limbs_lt F0.2 (m := 30) (by rw [H0.out.len]; exact hn0))
    have F1 := Arg.fineL_true hg.2
    simp only at F1
    have hbk1 := F1.2 k1 (by simp)
    have hbk2 := F1.2 k2 (by simp)
    clear hg F0 F1
    go_enter Try.func4, Try.ntmps4
    go_wp2_with fail
    refine (HCG.out).mono ?_
    rintro e W ⟨rfl, rfl⟩
    clear HCG
    go_wp2_with fail
    refine (text_c a0 n0 c0 x0 _ H0.out G0.out (by omega)).mono ?_
    rintro e w1 ⟨s2, rfl, hs, hb⟩
    try simp only [val_digs 1000000000 (by omega)] at hs
    have Ss2 := Lib.hid (hs)
    replace H0 := Lib.hid (H0.out.below hb)
    replace B := Lib.hid (B.out.trans (hb.mono B.out.size))
    clear hb hs
    have zs2 : s2.size ≤ 100000000 := by rw [Ss2.out.size]; exact Nat.le_trans (decs_len (V0.out)) (by omega)
    have hbA := (Below.refl (w1).heap.size w1).alloc (Nat.le_refl _) (.cells #[.int .u32 (k1 : Int)] 30)
    replace H0 := Lib.hid (H0.out.below hbA)
    replace B := Lib.hid (B.out.trans (hbA.mono B.out.size))
    clear hbA
    have N3 := Lib.hid (show Limbs (w1.alloc (.cells #[.int .u32 (k1 : Int)] 30)) (some ⟨w1.heap.size, 0, none⟩) 1 [k1] from limbs_new w1 k1 (by omega) _ rfl)
    go_wp2_with fail
    refine (text_c _ _ _ [k1] _ N3.out (by intro x hx; simp at hx; omega) (by omega)).mono ?_
    rintro e w2 ⟨s4, rfl, hs, hb⟩
    try simp only [val_digs 1000000000 (by omega)] at hs
    have Ss4 := Lib.hid (hs)
    replace H0 := Lib.hid (H0.out.below hb)
    replace N3 := Lib.hid (N3.out.below hb)
    replace B := Lib.hid (B.out.trans (hb.mono B.out.size))
    clear hb hs
    have zs4 : s4.size ≤ 100000000 := by rw [Ss4.out.size]; exact Nat.le_trans (decs_len ((limbs_lt (m := 1) (by intro x hx; simp at hx; omega) (by simp)))) (by omega)
    clear N3 
    go_wp2_with fail
    refine (times_c s2 s4 _ _ _ Ss2.out Ss4.out zs2 zs4).mono ?_
    rintro e w3 ⟨s5, rfl, hs, hb⟩
    rw [dval_decs, dval_decs] at hs
    have Ss5 := Lib.hid (hs)
    replace H0 := Lib.hid (H0.out.below hb)
    replace B := Lib.hid (B.out.trans (hb.mono B.out.size))
    clear hb hs
    have zs5 : s5.size ≤ 100000000 := by rw [Ss5.out.size]; exact Nat.le_trans (decs_len ((mul_lt_pow V0.out (limbs_lt (m := 1) (by intro x hx; simp at hx; omega) (by simp))))) (by omega)
    have hbA := (Below.refl (w3).heap.size w3).alloc (Nat.le_refl _) (.cells #[.int .u32 (k2 : Int)] 30)
    replace H0 := Lib.hid (H0.out.below hbA)
    replace B := Lib.hid (B.out.trans (hbA.mono B.out.size))
    clear hbA
    have N6 := Lib.hid (show Limbs (w3.alloc (.cells #[.int .u32 (k2 : Int)] 30)) (some ⟨w3.heap.size, 0, none⟩) 1 [k2] from limbs_new w3 k2 (by omega) _ rfl)
    go_wp2_with fail
    refine (text_c _ _ _ [k2] _ N6.out (by intro x hx; simp at hx; omega) (by omega)).mono ?_
    rintro e w4 ⟨s7, rfl, hs, hb⟩
    try simp only [val_digs 1000000000 (by omega)] at hs
    have Ss7 := Lib.hid (hs)
    replace H0 := Lib.hid (H0.out.below hb)
    replace N6 := Lib.hid (N6.out.below hb)
    replace B := Lib.hid (B.out.trans (hb.mono B.out.size))
    clear hb hs
    have zs7 : s7.size ≤ 100000000 := by rw [Ss7.out.size]; exact Nat.le_trans (decs_len ((limbs_lt (m := 1) (by intro x hx; simp at hx; omega) (by simp)))) (by omega)
    clear N6 
    go_wp2_with fail
    refine (plus_c s5 s7 _ _ _ Ss5.out Ss7.out zs5 zs7).mono ?_
    rintro e w5 ⟨s8, rfl, hs, hb⟩
    rw [dval_decs, dval_decs] at hs
    have Ss8 := Lib.hid (hs)
    replace H0 := Lib.hid (H0.out.below hb)
    replace B := Lib.hid (B.out.trans (hb.mono B.out.size))
    clear hb hs
    have zs8 : s8.size ≤ 100000000 := by rw [Ss8.out.size]; exact Nat.le_trans (decs_len ((sum_lt2 (mul_lt_pow V0.out (limbs_lt (m := 1) (by intro x hx; simp at hx; omega) (by simp))) (limbs_lt (m := 1) (by intro x hx; simp at hx; omega) (by simp))))) (by omega)
    go_wp2_with fail
    refine (answers02_c _).mono ?_
    rintro e w6 ⟨rfl, hb⟩
    replace H0 := Lib.hid (H0.out.below hb)
    replace B := Lib.hid (B.out.trans (hb.mono B.out.size))
    clear hb 
    go_wp2_with fail
    refine (small_c a0 n0 c0 x0 k1 k2 _ H0.out G0.out (Nat.le_trans (by omega) (by omega)) hbk1 hbk2).mono ?_
    rintro e w7 ⟨Ap9, mp9, cp9, rfl, ho, hb⟩
    try simp only [val_digs 1000000000 (by omega)] at ho
    have Op9 := Lib.hid (ho.limbs)
    have Lp9 := Lib.hid (ho.len)
    replace H0 := Lib.hid (H0.out.below hb)
    replace B := Lib.hid (B.out.trans (hb.mono B.out.size))
    clear hb ho
    have Kp9 : mp9 ≤ 280 := by rw [← Lp9.out]; exact Nat.le_trans (digs_len9 ((small_lt V0.out hbk1 hbk2))) (by omega)
    go_wp2_with fail
    refine (number_c s8 _ _ Ss8.out zs8).mono ?_
    rintro e w8 ⟨Ap10, mp10, cp10, rfl, ho, hb⟩
    try simp only [val_digs 1000000000 (by omega)] at ho
    try rw [dval_decs] at ho
    have Op10 := Lib.hid (ho.limbs)
    have Lp10 := Lib.hid (ho.len)
    replace H0 := Lib.hid (H0.out.below hb)
    replace Op9 := Lib.hid (Op9.out.below hb)
    replace B := Lib.hid (B.out.trans (hb.mono B.out.size))
    clear hb ho
    have Kp10 : mp10 ≤ 289 := by rw [← Lp10.out]; exact Nat.le_trans (digs_len9 ((sum_lt2 (mul_lt_pow V0.out (limbs_lt (m := 1) (by intro x hx; simp at hx; omega) (by simp))) (limbs_lt (m := 1) (by intro x hx; simp at hx; omega) (by simp))))) (by omega)
    go_wp2_with fail
    refine (same_c Ap9 Ap10 mp9 cp9 mp10 cp10 _ _ _ Op9.out Op10.out).mono ?_
    rw [decide_eq_true (congrArg (digs 1000000000) (by simp [val]))]
    rintro e w9 ⟨rfl, hb⟩
    replace H0 := Lib.hid (H0.out.below hb)
    replace Op9 := Lib.hid (Op9.out.below hb)
    replace Op10 := Lib.hid (Op10.out.below hb)
    replace B := Lib.hid (B.out.trans (hb.mono B.out.size))
    clear hb 
    go_wp2
    go_ret
    exact ⟨rfl, B.out⟩
end Go.Proofs.Ythddeiadcecggaa
