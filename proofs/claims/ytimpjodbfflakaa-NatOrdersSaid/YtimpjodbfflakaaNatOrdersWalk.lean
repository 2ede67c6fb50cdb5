/-
  NatOrders: the walk.
-/
import Derived.Test.YtimpjodbfflakaaAns2
namespace Go.Proofs.Ytimpjodbfflakaa
open Go.RowKit
set_option maxHeartbeats 1000000 in
set_option maxRecDepth 100000 in
theorem walk_natOrders (a0 : Option Addr) (n0 c0 : Nat) (x0 : List Nat) (a1 : Option Addr) (n1 c1 : Nat) (x1 : List Nat) (w : World) (h0 : Limbs w a0 n0 x0) (h1 : Limbs w a1 n1 x1) :
    Calls Try.prog 4 #[.slice a0 n0 c0, .slice a1 n1 c1] w fun e w' => e = .returned (.bool true) ∧ Below w.heap.size w w' := by
  have CG := good2_c a0 a1 n0 c0 n1 c1 x0 x1 w h0 h1
  have B := Lib.hid ((Below.refl w.heap.size w).alloc (Nat.le_refl _) (.cells #[.slice a0 n0 c0, .slice a1 n1 c1] 22))
  have H0 := Lib.hid h0
  have H1 := Lib.hid h1
  clear h0 h1
  rcases hg : (Arg.mk a0 n0 c0 x0).fine && (Arg.mk a1 n1 c1 x1).fine with _ | _
  · rw [hg] at CG
    have HCG := Lib.hid CG
    clear CG hg
    go_enter Try.func4, Try.ntmps4
    go_wp2_with fail
    refine (HCG.out).mono ?_
    rintro e W ⟨rfl, rfl⟩
    clear HCG
    go_wp2_with fail
    refine (answers_c _).mono ?_
    rintro e w1 ⟨rfl, hb⟩
    replace B := Lib.hid (B.out.trans (hb.mono B.out.size))
    clear hb 
    go_wp2
    go_ret
    exact ⟨rfl, B.out⟩
  · rw [hg] at CG
    have HCG := Lib.hid CG
    simp only [Bool.and_eq_true] at hg
    have F0 := Arg.fine_true hg.1
    have F1 := Arg.fine_true hg.2
    simp only at F0 F1
    have hn0 := F0.1
    have G0 := Lib.hid F0.2
    have V0 := Lib.hid (limbs_lt F0.2 (m := 60) (by rw [H0.out.len]; exact hn0))
    have hn1 := F1.1
    have G1 := Lib.hid F1.2
    have V1 := Lib.hid (limbs_lt F1.2 (m := 60) (by rw [H1.out.len]; exact hn1))
    clear CG hg F0 F1
    have CM : ∀ W, Limbs W a0 n0 x0 → Limbs W a1 n1 x1 → Calls Try.prog 19 #[.slice a0 n0 c0, .slice a1 n1 c1] W fun e w' => e = .returned (.int .i64 (cmpI (val 1000000000 x0) (val 1000000000 x1))) ∧ Below W.heap.size W w' := fun W h h' => cmp_c _ _ _ _ _ _ _ _ W h h' G0.out G1.out
    have CN : ∀ W, Limbs W a1 n1 x1 → Limbs W a0 n0 x0 → Calls Try.prog 19 #[.slice a1 n1 c1, .slice a0 n0 c0] W fun e w' => e = .returned (.int .i64 (cmpI (val 1000000000 x1) (val 1000000000 x0))) ∧ Below W.heap.size W w' := fun W h h' => cmp_c _ _ _ _ _ _ _ _ W h h' G1.out G0.out
    rcases Nat.lt_trichotomy (val 1000000000 x0) (val 1000000000 x1) with ho | ho | ho
    · rw [cmpI_of_lt ho] at CM
      rw [cmpI_of_gt ho] at CN
      have D1 := Lib.hid (show decide (val 1000000000 x0 < val 1000000000 x1) = true by simp; omega)
      have D2 := Lib.hid (show decide (val 1000000000 x1 < val 1000000000 x0) = false by simp; omega)
      have HM := Lib.hid CM
      have HN := Lib.hid CN
      clear CM CN ho
      go_enter Try.func4, Try.ntmps4
      go_wp2_with fail
      refine HCG.out.mono ?_
      rintro e W ⟨rfl, rfl⟩
      clear HCG
      go_wp2_with fail
      refine (text_c a0 n0 c0 x0 _ (H0.out.below B.out) G0.out (by omega)).mono ?_
      rintro e w2 ⟨s, rfl, hs, hb⟩
      have Ss := Lib.hid (hs)
      replace B := Lib.hid (B.out.trans (hb.mono B.out.size))
      clear hb hs
      have zs : s.size ≤ 100000000 := by rw [Ss.out.size]; exact Nat.le_trans (decs_len V0.out) (by omega)
      go_wp2_with fail
      refine (text_c a1 n1 c1 x1 _ (H1.out.below B.out) G1.out (by omega)).mono ?_
      rintro e w3 ⟨t, rfl, hs, hb⟩
      have St := Lib.hid (hs)
      replace B := Lib.hid (B.out.trans (hb.mono B.out.size))
      clear hb hs
      have zt : t.size ≤ 100000000 := by rw [St.out.size]; exact Nat.le_trans (decs_len V1.out) (by omega)
      have E1 := less_c s t _ _ w3 Ss.out St.out
      have E2 := less_c t s _ _ w3 St.out Ss.out
      rw [D1.out] at E1
      rw [D2.out] at E2
      have HE1 := Lib.hid E1
      have HE2 := Lib.hid E2
      clear E1 E2
      go_wp2_with fail
      refine (HE1.out).mono ?_
      rintro e W ⟨rfl, rfl⟩
      go_wp2_with fail
      refine (HE2.out).mono ?_
      rintro e W ⟨rfl, rfl⟩
      go_wp2_with fail
      refine (answers_c _).mono ?_
      rintro e w4 ⟨rfl, hb⟩
      replace B := Lib.hid (B.out.trans (hb.mono B.out.size))
      clear hb 
      go_wp2_with fail
      refine (HM.out _ (H0.out.below B.out) (H1.out.below B.out)).mono ?_
      rintro e w5 ⟨rfl, hb⟩
      replace B := Lib.hid (B.out.trans (hb.mono B.out.size))
      clear hb 
      go_wp2_with fail
      refine (HN.out _ (H1.out.below B.out) (H0.out.below B.out)).mono ?_
      rintro e w6 ⟨rfl, hb⟩
      replace B := Lib.hid (B.out.trans (hb.mono B.out.size))
      clear hb 
      go_wp2
      go_ret
      exact ⟨rfl, B.out⟩
    · rw [cmpI_of_eq ho] at CM
      rw [cmpI_of_eq ho.symm] at CN
      have D1 := Lib.hid (show decide (val 1000000000 x0 < val 1000000000 x1) = false by simp; omega)
      have D2 := Lib.hid (show decide (val 1000000000 x1 < val 1000000000 x0) = false by simp; omega)
      have HM := Lib.hid CM
      have HN := Lib.hid CN
      clear CM CN ho
      go_enter Try.func4, Try.ntmps4
      go_wp2_with fail
      refine HCG.out.mono ?_
      rintro e W ⟨rfl, rfl⟩
      clear HCG
      go_wp2_with fail
      refine (text_c a0 n0 c0 x0 _ (H0.out.below B.out) G0.out (by omega)).mono ?_
      rintro e w2 ⟨s, rfl, hs, hb⟩
      have Ss := Lib.hid (hs)
      replace B := Lib.hid (B.out.trans (hb.mono B.out.size))
      clear hb hs
      have zs : s.size ≤ 100000000 := by rw [Ss.out.size]; exact Nat.le_trans (decs_len V0.out) (by omega)
      go_wp2_with fail
      refine (text_c a1 n1 c1 x1 _ (H1.out.below B.out) G1.out (by omega)).mono ?_
      rintro e w3 ⟨t, rfl, hs, hb⟩
      have St := Lib.hid (hs)
      replace B := Lib.hid (B.out.trans (hb.mono B.out.size))
      clear hb hs
      have zt : t.size ≤ 100000000 := by rw [St.out.size]; exact Nat.le_trans (decs_len V1.out) (by omega)
      have E1 := less_c s t _ _ w3 Ss.out St.out
      have E2 := less_c t s _ _ w3 St.out Ss.out
      rw [D1.out] at E1
      rw [D2.out] at E2
      have HE1 := Lib.hid E1
      have HE2 := Lib.hid E2
      clear E1 E2
      go_wp2_with fail
      refine (HE1.out).mono ?_
      rintro e W ⟨rfl, rfl⟩
      go_wp2_with fail
      refine (HE2.out).mono ?_
      rintro e W ⟨rfl, rfl⟩
      go_wp2_with fail
      refine (answers_c _).mono ?_
      rintro e w4 ⟨rfl, hb⟩
      replace B := Lib.hid (B.out.trans (hb.mono B.out.size))
      clear hb 
      go_wp2_with fail
      refine (HM.out _ (H0.out.below B.out) (H1.out.below B.out)).mono ?_
      rintro e w5 ⟨rfl, hb⟩
      replace B := Lib.hid (B.out.trans (hb.mono B.out.size))
      clear hb 
      go_wp2_with fail
      refine (HN.out _ (H1.out.below B.out) (H0.out.below B.out)).mono ?_
      rintro e w6 ⟨rfl, hb⟩
      replace B := Lib.hid (B.out.trans (hb.mono B.out.size))
      clear hb 
      go_wp2
      go_ret
      exact ⟨rfl, B.out⟩
    · rw [cmpI_of_gt ho] at CM
      rw [cmpI_of_lt ho] at CN
      have D1 := Lib.hid (show decide (val 1000000000 x0 < val 1000000000 x1) = false by simp; omega)
      have D2 := Lib.hid (show decide (val 1000000000 x1 < val 1000000000 x0) = true by simp; omega)
      have HM := Lib.hid CM
      have HN := Lib.hid CN
      clear CM CN ho
      go_enter Try.func4, Try.ntmps4
      go_wp2_with fail
      refine HCG.out.mono ?_
      rintro e W ⟨rfl, rfl⟩
      clear HCG
      go_wp2_with fail
      refine (text_c a0 n0 c0 x0 _ (H0.out.below B.out) G0.out (by omega)).mono ?_
      rintro e w2 ⟨s, rfl, hs, hb⟩
      have Ss := Lib.hid (hs)
      replace B := Lib.hid (B.out.trans (hb.mono B.out.size))
      clear hb hs
      have zs : s.size ≤ 100000000 := by rw [Ss.out.size]; exact Nat.le_trans (decs_len V0.out) (by omega)
      go_wp2_with fail
      refine (text_c a1 n1 c1 x1 _ (H1.out.below B.out) G1.out (by omega)).mono ?_
      rintro e w3 ⟨t, rfl, hs, hb⟩
      have St := Lib.hid (hs)
      replace B := Lib.hid (B.out.trans (hb.mono B.out.size))
      clear hb hs
      have zt : t.size ≤ 100000000 := by rw [St.out.size]; exact Nat.le_trans (decs_len V1.out) (by omega)
      have E1 := less_c s t _ _ w3 Ss.out St.out
      have E2 := less_c t s _ _ w3 St.out Ss.out
      rw [D1.out] at E1
      rw [D2.out] at E2
      have HE1 := Lib.hid E1
      have HE2 := Lib.hid E2
      clear E1 E2
      go_wp2_with fail
      refine (HE1.out).mono ?_
      rintro e W ⟨rfl, rfl⟩
      go_wp2_with fail
      refine (HE2.out).mono ?_
      rintro e W ⟨rfl, rfl⟩
      go_wp2_with fail
      refine (answers_c _).mono ?_
      rintro e w4 ⟨rfl, hb⟩
      replace B := Lib.hid (B.out.trans (hb.mono B.out.size))
      clear hb 
      go_wp2_with fail
      refine (HM.out _ (H0.out.below B.out) (H1.out.below B.out)).mono ?_
      rintro e w5 ⟨rfl, hb⟩
      replace B := Lib.hid (B.out.trans (hb.mono B.out.size))
      clear hb 
      go_wp2_with fail
      refine (HN.out _ (H1.out.below B.out) (H0.out.below B.out)).mono ?_
      rintro e w6 ⟨rfl, hb⟩
      replace B := Lib.hid (B.out.trans (hb.mono B.out.size))
      clear hb 
      go_wp2
      go_ret
      exact ⟨rfl, B.out⟩
end Go.Proofs.Ytimpjodbfflakaa
