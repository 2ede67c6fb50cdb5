/-
  NatSubs: the walk.
-/
import Derived.Test.YtimpjodbfflakaaAns2
namespace Go.Proofs.Ytimpjodbfflakaa
open Go.RowKit
set_option maxHeartbeats 1000000 in
set_option maxRecDepth 100000 in
theorem walk_natSubs (a0 : Option Addr) (n0 c0 : Nat) (x0 : List Nat) (a1 : Option Addr) (n1 c1 : Nat) (x1 : List Nat) (w : World) (h0 : Limbs w a0 n0 x0) (h1 : Limbs w a1 n1 x1) :
    Calls Try.prog 6 #[.slice a0 n0 c0, .slice a1 n1 c1] w fun e w' => e = .returned (.bool true) ∧ Below w.heap.size w w' := by
  have CG := good2_c a0 a1 n0 c0 n1 c1 x0 x1 w h0 h1
  have B := Lib.hid ((Below.refl w.heap.size w).alloc (Nat.le_refl _) (.cells #[.slice a0 n0 c0, .slice a1 n1 c1] 22))
  have H0 := Lib.hid h0
  have H1 := Lib.hid h1
  clear h0 h1
  rcases hg : (Arg.mk a0 n0 c0 x0).fine && (Arg.mk a1 n1 c1 x1).fine with _ | _
  · rw [hg] at CG
    have HCG := Lib.hid CG
    clear CG hg
    go_enter Try.func6, Try.ntmps6
    go_wp2_with fail
    refine (HCG.out).mono ?_
    rintro e W ⟨rfl, rfl⟩
    clear HCG
    go_wp2_with fail
    refine (answers_c _).mono ?_
    rintro e w1 ⟨rfl, hb⟩
    replace B := Lib.hid (B.out.trans (hb.mono B.out.size))
    clear hb 
    go_wp2
    go_ret
    exact ⟨rfl, B.out⟩
  · rw [hg] at CG
    have HCG := Lib.hid CG
    simp only [Bool.and_eq_true] at hg
    have F0 := Arg.fine_true hg.1
    have F1 := Arg.fine_true hg.2
    simp only at F0 F1
    have hn0 := F0.1
    have G0 := Lib.hid F0.2
    have V0 := Lib.hid (limbs_lt F0.2 (m := 60) (by rw [H0.out.len]; exact hn0))
    have hn1 := F1.1
    have G1 := Lib.hid F1.2
    have V1 := Lib.hid (limbs_lt F1.2 (m := 60) (by rw [H1.out.len]; exact hn1))
    clear CG hg F0 F1
    rcases Nat.lt_or_ge (val 1000000000 x0) (val 1000000000 x1) with ho | ho
    · have D1 := Lib.hid (show decide (val 1000000000 x0 < val 1000000000 x1) = true by simpa using ho)
      have HO := Lib.hid ho
      clear ho
      go_enter Try.func6, Try.ntmps6
      go_wp2_with fail
      refine HCG.out.mono ?_
      rintro e W ⟨rfl, rfl⟩
      clear HCG
      go_wp2_with fail
      refine (text_c a0 n0 c0 x0 _ (H0.out.below B.out) G0.out (by omega)).mono ?_
      rintro e w2 ⟨s, rfl, hs, hb⟩
      have Ss := Lib.hid (hs)
      replace B := Lib.hid (B.out.trans (hb.mono B.out.size))
      clear hb hs
      have zs : s.size ≤ 100000000 := by rw [Ss.out.size]; exact Nat.le_trans (decs_len V0.out) (by omega)
      go_wp2_with fail
      refine (text_c a1 n1 c1 x1 _ (H1.out.below B.out) G1.out (by omega)).mono ?_
      rintro e w3 ⟨t, rfl, hs, hb⟩
      have St := Lib.hid (hs)
      replace B := Lib.hid (B.out.trans (hb.mono B.out.size))
      clear hb hs
      have zt : t.size ≤ 100000000 := by rw [St.out.size]; exact Nat.le_trans (decs_len V1.out) (by omega)
      go_wp2_with fail
      refine (sub_less a0 a1 n0 c0 n1 c1 x0 x1 _ (H0.out.below B.out) (H1.out.below B.out) G0.out G1.out HO.out).mono ?_
      rintro e w4 ⟨rfl, hb⟩
      replace B := Lib.hid (B.out.trans (hb.mono B.out.size))
      clear hb 
      have E1 := less_c s t _ _ w4 Ss.out St.out
      rw [D1.out] at E1
      have HE1 := Lib.hid E1
      clear E1
      go_wp2_with fail
      refine (HE1.out).mono ?_
      rintro e W ⟨rfl, rfl⟩
      go_wp2_with fail
      refine (answers_c _).mono ?_
      rintro e w5 ⟨rfl, hb⟩
      replace B := Lib.hid (B.out.trans (hb.mono B.out.size))
      clear hb 
      go_wp2
      go_ret
      exact ⟨rfl, B.out⟩
    · have D1 := Lib.hid (show decide (val 1000000000 x0 < val 1000000000 x1) = false by simpa using ho)
      have HO := Lib.hid ho
      have HL := Lib.hid (decs_length_le ho)
      clear ho
      go_enter Try.func6, Try.ntmps6
      go_wp2_with fail
      refine HCG.out.mono ?_
      rintro e W ⟨rfl, rfl⟩
      clear HCG
      go_wp2_with fail
      refine (text_c a0 n0 c0 x0 _ (H0.out.below B.out) G0.out (by omega)).mono ?_
      rintro e w2 ⟨s, rfl, hs, hb⟩
      have Ss := Lib.hid (hs)
      replace B := Lib.hid (B.out.trans (hb.mono B.out.size))
      clear hb hs
      have zs : s.size ≤ 100000000 := by rw [Ss.out.size]; exact Nat.le_trans (decs_len V0.out) (by omega)
      go_wp2_with fail
      refine (text_c a1 n1 c1 x1 _ (H1.out.below B.out) G1.out (by omega)).mono ?_
      rintro e w3 ⟨t, rfl, hs, hb⟩
      have St := Lib.hid (hs)
      replace B := Lib.hid (B.out.trans (hb.mono B.out.size))
      clear hb hs
      have zt : t.size ≤ 100000000 := by rw [St.out.size]; exact Nat.le_trans (decs_len V1.out) (by omega)
      go_wp2_with fail
      refine (sub_geq a0 a1 n0 c0 n1 c1 x0 x1 _ (H0.out.below B.out) (H1.out.below B.out) G0.out G1.out HO.out (by omega)).mono ?_
      rintro e w4 ⟨A4, m4, c4, rfl, ho, hb⟩
      have O4 := Lib.hid (ho.limbs)
      replace B := Lib.hid (B.out.trans (hb.mono B.out.size))
      clear hb ho
      have E1 := less_c s t _ _ w4 Ss.out St.out
      rw [D1.out] at E1
      have HE1 := Lib.hid E1
      clear E1
      go_wp2_with fail
      refine (HE1.out).mono ?_
      rintro e W ⟨rfl, rfl⟩
      go_wp2_with fail
      refine (answers_c _).mono ?_
      rintro e w5 ⟨rfl, hb⟩
      replace O4 := Lib.hid (O4.out.below hb)
      replace B := Lib.hid (B.out.trans (hb.mono B.out.size))
      clear hb 
      go_wp2_with fail
      refine (minus_c s t _ _ _ Ss.out St.out zs HL.out (by rw [dval_decs, dval_decs]; exact HO.out)).mono ?_
      rintro e w6 ⟨u, rfl, hs, hb⟩
      rw [dval_decs, dval_decs] at hs
      have Su := Lib.hid (hs)
      replace O4 := Lib.hid (O4.out.below hb)
      replace B := Lib.hid (B.out.trans (hb.mono B.out.size))
      clear hb hs
      have zu : u.size ≤ 100000000 := by rw [Su.out.size]; exact Nat.le_trans (decs_len (Nat.lt_of_le_of_lt (Nat.sub_le _ _) V0.out)) (by omega)
      go_wp2_with fail
      refine (number_c u _ _ Su.out zu).mono ?_
      rintro e w7 ⟨A7, m7, c7, rfl, ho, hb⟩
      rw [dval_decs] at ho
      have O7 := Lib.hid (ho.limbs)
      replace O4 := Lib.hid (O4.out.below hb)
      replace B := Lib.hid (B.out.trans (hb.mono B.out.size))
      clear hb ho
      go_wp2_with fail
      refine (same_c A4 A7 m4 c4 m7 c7 _ _ _ O4.out O7.out).mono ?_
      rw [decide_eq_true rfl]
      rintro e w8 ⟨rfl, hb⟩
      replace B := Lib.hid (B.out.trans (hb.mono B.out.size))
      clear hb 
      go_wp2
      go_ret
      exact ⟨rfl, B.out⟩
end Go.Proofs.Ytimpjodbfflakaa
