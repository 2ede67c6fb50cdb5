/-
  NatAdds: the walk.
-/
import Derived.Test.YtimpjodbfflakaaAns2
namespace Go.Proofs.Ytimpjodbfflakaa
open Go.RowKit
set_option maxHeartbeats 800000 in
set_option maxRecDepth 100000 in
theorem walk_natAdds (a0 : Option Addr) (n0 c0 : Nat) (xs : List Nat) (a1 : Option Addr) (n1 c1 : Nat) (ys : List Nat) (w : World) (h0 : Limbs w a0 n0 xs) (h1 : Limbs w a1 n1 ys) :
    Calls Try.prog 5 #[.slice a0 n0 c0, .slice a1 n1 c1] w fun e w' => e = .returned (.bool true) ∧ Below w.heap.size w w' := by
  have CG := good2_c a0 a1 n0 c0 n1 c1 xs ys w h0 h1
  have hb0 := Lib.hid ((Below.refl w.heap.size w).alloc (Nat.le_refl _) (.cells #[.slice a0 n0 c0, .slice a1 n1 c1] 22))
  have H0 := Lib.hid h0
  have H1 := Lib.hid h1
  clear h0 h1
  rcases hg : (Arg.mk a0 n0 c0 xs).fine && (Arg.mk a1 n1 c1 ys).fine with _ | _
  · rw [hg] at CG
    have HCG := Lib.hid CG
    clear CG hg
    go_enter Try.func5, Try.ntmps5
    go_wp2_with fail
    refine HCG.out.mono ?_
    rintro e W ⟨rfl, rfl⟩
    go_wp2_with fail
    refine (answers_c _).mono ?_
    rintro e W ⟨rfl, hb1⟩
    have HB1 := Lib.hid (hb0.out.trans (hb1.mono hb0.out.size))
    clear hb1 HCG
    go_wp2
    go_ret
    exact ⟨rfl, HB1.out⟩
  · rw [hg] at CG
    have HCG := Lib.hid CG
    simp only [Bool.and_eq_true] at hg
    have F0 := Arg.fine_true hg.1
    have F1 := Arg.fine_true hg.2
    simp only at F0 F1
    have hn0 := F0.1
    have hn1 := F1.1
    have V0 := limbs_lt F0.2 (m := 60) (by rw [H0.out.len]; exact hn0)
    have V1 := limbs_lt F1.2 (m := 60) (by rw [H1.out.len]; exact hn1)
    have L0 := Lib.hid (decs_len V0)
    have L1 := Lib.hid (decs_len V1)
    have L2 := Lib.hid (decs_len (sum_lt V0 V1))
    clear V0 V1
    have G0 := Lib.hid F0.2
    have G1 := Lib.hid F1.2
    clear CG hg F0 F1
    go_enter Try.func5, Try.ntmps5
    go_wp2_with fail
    refine HCG.out.mono ?_
    rintro e W ⟨rfl, rfl⟩
    clear HCG
    go_wp2_with fail
    refine (answers_c _).mono ?_
    rintro e w1 ⟨rfl, hb⟩
    have B1 := Lib.hid (hb0.out.trans (hb.mono hb0.out.size))
    clear hb hb0
    go_wp2_with fail
    refine (add_c a0 a1 n0 c0 n1 c1 xs ys w1 (H0.out.below B1.out) (H1.out.below B1.out) G0.out G1.out (by omega) (by omega)).mono ?_
    rintro e w2 ⟨A2, m2, c2, rfl, ho, hb⟩
    have O2 := Lib.hid ho.limbs
    have B2 := Lib.hid (B1.out.trans (hb.mono B1.out.size))
    clear hb ho B1
    go_wp2_with fail
    refine (text_c a0 n0 c0 xs w2 (H0.out.below B2.out) G0.out (by omega)).mono ?_
    rintro e w3 ⟨s0, rfl, hs, hb⟩
    have S0 := Lib.hid hs
    have O3 := Lib.hid (O2.out.below hb)
    have B3 := Lib.hid (B2.out.trans (hb.mono B2.out.size))
    clear hb hs B2 O2
    go_wp2_with fail
    refine (text_c a1 n1 c1 ys w3 (H1.out.below B3.out) G1.out (by omega)).mono ?_
    rintro e w4 ⟨s1, rfl, hs, hb⟩
    have S1 := Lib.hid hs
    have O4 := Lib.hid (O3.out.below hb)
    have B4 := Lib.hid (B3.out.trans (hb.mono B3.out.size))
    clear hb hs B3 O3
    have hz0 : s0.size ≤ 100000000 := by rw [S0.out.size]; exact Nat.le_trans L0.out (by omega)
    have hz1 : s1.size ≤ 100000000 := by rw [S1.out.size]; exact Nat.le_trans L1.out (by omega)
    go_wp2_with fail
    refine (plus_c s0 s1 _ _ w4 S0.out S1.out hz0 hz1).mono ?_
    rintro e w5 ⟨s2, rfl, hs, hb⟩
    rw [dval_decs, dval_decs] at hs
    have S2 := Lib.hid hs
    have O5 := Lib.hid (O4.out.below hb)
    have B5 := Lib.hid (B4.out.trans (hb.mono B4.out.size))
    clear hb hs B4 O4
    have hz2 : s2.size ≤ 100000000 := by rw [S2.out.size]; exact Nat.le_trans L2.out (by omega)
    go_wp2_with fail
    refine (number_c s2 _ w5 S2.out hz2).mono ?_
    rintro e w6 ⟨A6, m6, c6, rfl, ho, hb⟩
    rw [dval_decs] at ho
    have P6 := Lib.hid ho.limbs
    have O6 := Lib.hid (O5.out.below hb)
    have B6 := Lib.hid (B5.out.trans (hb.mono B5.out.size))
    clear hb ho B5 O5
    go_wp2_with fail
    refine (same_c A2 A6 m2 c2 m6 c6 _ _ w6 O6.out P6.out).mono ?_
    rw [decide_eq_true rfl]
    rintro e w7 ⟨rfl, hb⟩
    have B7 := Lib.hid (B6.out.trans (hb.mono B6.out.size))
    clear hb B6
    go_wp2
    go_ret
    exact ⟨rfl, B7.out⟩
end Go.Proofs.Ytimpjodbfflakaa
