/-
  NatThree: the walk.
-/
import Derived.Test.YtimpjodbfflakaaAns2
namespace Go.Proofs.Ytimpjodbfflakaa
open Go.RowKit
set_option maxHeartbeats 1000000 in
set_option maxRecDepth 100000 in
theorem walk_natThree (a0 : Option Addr) (n0 c0 : Nat) (x0 : List Nat) (a1 : Option Addr) (n1 c1 : Nat) (x1 : List Nat) (a2 : Option Addr) (n2 c2 : Nat) (x2 : List Nat) (w : World) (h0 : Limbs w a0 n0 x0) (h1 : Limbs w a1 n1 x1) (h2 : Limbs w a2 n2 x2) :
    Calls Try.prog 7 #[.slice a0 n0 c0, .slice a1 n1 c1, .slice a2 n2 c2] w fun e w' => e = .returned (.bool true) ∧ Below w.heap.size w w' := by
  have CG := good3_c a0 a1 a2 n0 c0 n1 c1 n2 c2 x0 x1 x2 w h0 h1 h2
  have B := Lib.hid ((Below.refl w.heap.size w).alloc (Nat.le_refl _) (.cells #[.slice a0 n0 c0, .slice a1 n1 c1, .slice a2 n2 c2] 22))
  have H0 := Lib.hid h0
  have H1 := Lib.hid h1
  have H2 := Lib.hid h2
  clear h0 h1 h2
  rcases hg : (Arg.mk a0 n0 c0 x0).fine && ((Arg.mk a1 n1 c1 x1).fine && (Arg.mk a2 n2 c2 x2).fine) with _ | _
  · rw [hg] at CG
    have HCG := Lib.hid CG
    clear CG hg
    go_enter Try.func7, Try.ntmps7
    go_wp2_with fail
    refine (HCG.out).mono ?_
    rintro e W ⟨rfl, rfl⟩
    clear HCG
    go_wp2_with fail
    refine (answers_c _).mono ?_
    rintro e w1 ⟨rfl, hb⟩
    replace B := Lib.hid (B.out.trans (hb.mono B.out.size))
    clear hb 
    go_wp2
    go_ret
    exact ⟨rfl, B.out⟩
  · rw [hg] at CG
    have HCG := Lib.hid CG
    simp only [Bool.and_eq_true] at hg
    have F0 := Arg.fine_true hg.1
    have F1 := Arg.fine_true hg.2.1
    have F2 := Arg.fine_true hg.2.2
    simp only at F0 F1 F2
    have hn0 := F0.1
    have G0 := Lib.hid F0.2
    have V0 := Lib.hid (limbs_lt F0.2 (m := 60) (by rw [H0.out.len]; exact hn0))
    have hn1 := F1.1
    have G1 := Lib.hid F1.2
    have V1 := Lib.hid (limbs_lt F1.2 (m := 60) (by rw [H1.out.len]; exact hn1))
    have hn2 := F2.1
    have G2 := Lib.hid F2.2
    have V2 := Lib.hid (limbs_lt F2.2 (m := 60) (by rw [H2.out.len]; exact hn2))
    clear CG hg F0 F1 F2
    have W01 := Lib.hid (sum_lt V0.out V1.out)
    have W21 := Lib.hid (sum_lt V2.out V1.out)
    go_enter Try.func7, Try.ntmps7
    go_wp2_with fail
    refine HCG.out.mono ?_
    rintro e W ⟨rfl, rfl⟩
    clear HCG
    go_wp2_with fail
    refine (add_c a0 a1 n0 c0 n1 c1 _ _ _ (H0.out.below B.out) (H1.out.below B.out) G0.out G1.out (by omega) (by omega)).mono ?_
    rintro e w2 ⟨Ap, mp, cp, rfl, ho, hb⟩
    try simp only [val_digs 1000000000 (by omega)] at ho
    have Op := Lib.hid (ho.limbs)
    have Lp := Lib.hid (ho.len)
    replace B := Lib.hid (B.out.trans (hb.mono B.out.size))
    clear hb ho
    have Kp : mp ≤ 1000 := by rw [← Lp.out]; exact Nat.le_trans (digs_len9 (W01.out)) (by omega)
    go_wp2_with fail
    refine (sub_geq Ap a1 mp cp n1 c1 _ x1 _ Op.out (H1.out.below B.out) (digs_lt 1000000000 (by omega) _) G1.out (by rw [val_digs 1000000000 (by omega)]; exact Nat.le_add_left _ _) (by have := Kp; omega)).mono ?_
    rintro e w3 ⟨Aq, mq, cq, rfl, ho, hb⟩
    rw [val_digs 1000000000 (by omega), Nat.add_sub_cancel] at ho
    have Oq := Lib.hid (ho.limbs)
    replace B := Lib.hid (B.out.trans (hb.mono B.out.size))
    clear hb ho Op Lp Kp
    go_wp2_with fail
    refine (answers_c _).mono ?_
    rintro e w4 ⟨rfl, hb⟩
    replace Oq := Lib.hid (Oq.out.below hb)
    replace B := Lib.hid (B.out.trans (hb.mono B.out.size))
    clear hb 
    go_wp2_with fail
    refine (add_c a0 a1 n0 c0 n1 c1 _ _ _ (H0.out.below B.out) (H1.out.below B.out) G0.out G1.out (by omega) (by omega)).mono ?_
    rintro e w5 ⟨Ar, mr, cr, rfl, ho, hb⟩
    try simp only [val_digs 1000000000 (by omega)] at ho
    have Or := Lib.hid (ho.limbs)
    have Lr := Lib.hid (ho.len)
    replace Oq := Lib.hid (Oq.out.below hb)
    replace B := Lib.hid (B.out.trans (hb.mono B.out.size))
    clear hb ho
    have Kr : mr ≤ 1000 := by rw [← Lr.out]; exact Nat.le_trans (digs_len9 (W01.out)) (by omega)
    go_wp2_with fail
    refine (add_c Ar a2 mr cr n2 c2 _ _ _ Or.out (H2.out.below B.out) (digs_lt 1000000000 (by omega) _) G2.out (by have := Kr; omega) (by omega)).mono ?_
    rintro e w6 ⟨Au, mu, cu, rfl, ho, hb⟩
    try simp only [val_digs 1000000000 (by omega)] at ho
    have Ou := Lib.hid (ho.limbs)
    have Lu := Lib.hid (ho.len)
    replace Oq := Lib.hid (Oq.out.below hb)
    replace B := Lib.hid (B.out.trans (hb.mono B.out.size))
    clear hb ho
    clear Or Lr Kr
    go_wp2_with fail
    refine (add_c a2 a1 n2 c2 n1 c1 _ _ _ (H2.out.below B.out) (H1.out.below B.out) G2.out G1.out (by omega) (by omega)).mono ?_
    rintro e w7 ⟨Av, mv, cv, rfl, ho, hb⟩
    try simp only [val_digs 1000000000 (by omega)] at ho
    have Ov := Lib.hid (ho.limbs)
    have Lv := Lib.hid (ho.len)
    replace Oq := Lib.hid (Oq.out.below hb)
    replace Ou := Lib.hid (Ou.out.below hb)
    replace B := Lib.hid (B.out.trans (hb.mono B.out.size))
    clear hb ho
    have Kv : mv ≤ 1000 := by rw [← Lv.out]; exact Nat.le_trans (digs_len9 (W21.out)) (by omega)
    go_wp2_with fail
    refine (add_c a0 Av n0 c0 mv cv _ _ _ (H0.out.below B.out) Ov.out G0.out (digs_lt 1000000000 (by omega) _) (by omega) (by have := Kv; omega)).mono ?_
    rintro e w8 ⟨Ay, my, cy, rfl, ho, hb⟩
    try simp only [val_digs 1000000000 (by omega)] at ho
    rw [show val 1000000000 x0 + (val 1000000000 x2 + val 1000000000 x1) = val 1000000000 x0 + val 1000000000 x1 + val 1000000000 x2 by omega] at ho
    have Oy := Lib.hid (ho.limbs)
    have Ly := Lib.hid (ho.len)
    replace Oq := Lib.hid (Oq.out.below hb)
    replace Ou := Lib.hid (Ou.out.below hb)
    replace B := Lib.hid (B.out.trans (hb.mono B.out.size))
    clear hb ho
    clear Ov Lv Kv
    go_wp2_with fail
    refine (same_c Au Ay mu cu my cy _ _ _ Ou.out Oy.out).mono ?_
    rw [decide_eq_true rfl]
    rintro e w9 ⟨rfl, hb⟩
    replace Oq := Lib.hid (Oq.out.below hb)
    replace B := Lib.hid (B.out.trans (hb.mono B.out.size))
    clear hb 
    go_wp2_with fail
    refine (trim_c a0 n0 c0 x0 _ (H0.out.below B.out) (by omega)).mono ?_
    rintro e w10 ⟨Az, mz, cz, rfl, ho, hb⟩
    rw [trim_eq_digs 1000000000 (by omega) _ G0.out] at ho
    have Oz := Lib.hid (ho.limbs)
    replace Oq := Lib.hid (Oq.out.below hb)
    replace B := Lib.hid (B.out.trans (hb.mono B.out.size))
    clear hb ho
    go_wp2_with fail
    refine (same_c Aq Az mq cq mz cz _ _ _ Oq.out Oz.out).mono ?_
    rw [decide_eq_true rfl]
    rintro e w11 ⟨rfl, hb⟩
    replace B := Lib.hid (B.out.trans (hb.mono B.out.size))
    clear hb 
    go_wp2
    go_ret
    exact ⟨rfl, B.out⟩
end Go.Proofs.Ytimpjodbfflakaa
