/-
  NatGood: the walk.
-/
import Derived.Test.YtimpjodbfflakaaAns2
namespace Go.Proofs.Ytimpjodbfflakaa
open Go.RowKit
set_option maxHeartbeats 1000000 in
set_option maxRecDepth 100000 in
theorem walk_natGood (a0 : Option Addr) (n0 c0 : Nat) (x0 : List Nat) (w : World) (h0 : Limbs w a0 n0 x0) :
    Calls Try.prog 3 #[.slice a0 n0 c0] w fun e w' => e = .returned (.bool true) ∧ Below w.heap.size w w' := by
  have CR := fun W (h : Limbs W a0 n0 x0) => refGood_c a0 n0 c0 x0 W h
  have CN := fun W (h : Limbs W a0 n0 x0) => natGood_c a0 n0 c0 x0 W h
  have B := Lib.hid (Below.refl w.heap.size w)
  have hn0 := h0.2.1
  have H0 := Lib.hid h0
  have HL := Lib.hid h0.len
  clear h0
  rcases hg : x0.all (fun x => decide (x ≤ 999999999)) with _ | _
  · rw [hg] at CR CN
    have HR := Lib.hid CR
    have HN := Lib.hid CN
    clear CR CN hg
    go_enter Try.func3, Try.ntmps3
    go_wp2_with fail
    refine (HR.out _ (H0.out.below B.out)).mono ?_
    rintro e W ⟨rfl, rfl⟩
    go_wp2_with fail
    refine (answers_c _).mono ?_
    rintro e w1 ⟨rfl, hb⟩
    replace B := Lib.hid (B.out.trans (hb.mono B.out.size))
    clear hb 
    go_wp2_with fail
    refine (HN.out _ (H0.out.below B.out)).mono ?_
    rintro e W ⟨rfl, rfl⟩
    go_wp2_with fail
    refine (HR.out _ (H0.out.below B.out)).mono ?_
    rintro e W ⟨rfl, rfl⟩
    go_wp2
    go_ret
    exact ⟨rfl, B.out⟩
  · rw [hg] at CR CN
    have HR := Lib.hid CR
    have HN := Lib.hid CN
    have G0 := Lib.hid (show ∀ x ∈ x0, x < 1000000000 by
      intro x hx
      have := List.all_eq_true.1 hg x hx
      simp at this
      omega)
    clear CR CN hg
    by_cases hbig : 60 < n0
    · go_enter Try.func3, Try.ntmps3
      go_wp2_with fail
      refine (HR.out _ (H0.out.below B.out)).mono ?_
      rintro e W ⟨rfl, rfl⟩
      go_wp2_with fail
      refine (answers_c _).mono ?_
      rintro e w1 ⟨rfl, hb⟩
      replace B := Lib.hid (B.out.trans (hb.mono B.out.size))
      clear hb 
      go_wp2_with fail
      refine (HN.out _ (H0.out.below B.out)).mono ?_
      rintro e W ⟨rfl, rfl⟩
      go_wp2_with fail
      refine (HR.out _ (H0.out.below B.out)).mono ?_
      rintro e W ⟨rfl, rfl⟩
      go_wp2
      go_ret
      exact ⟨rfl, B.out⟩
    · have V0 := Lib.hid (limbs_lt G0.out (m := 60) (by rw [HL.out]; omega))
      go_enter Try.func3, Try.ntmps3
      go_wp2_with fail
      refine (HR.out _ (H0.out.below B.out)).mono ?_
      rintro e W ⟨rfl, rfl⟩
      go_wp2_with fail
      refine (answers_c _).mono ?_
      rintro e w1 ⟨rfl, hb⟩
      replace B := Lib.hid (B.out.trans (hb.mono B.out.size))
      clear hb 
      go_wp2_with fail
      refine (HN.out _ (H0.out.below B.out)).mono ?_
      rintro e W ⟨rfl, rfl⟩
      go_wp2_with fail
      refine (trim_c a0 n0 c0 x0 _ (H0.out.below B.out) (by omega)).mono ?_
      rintro e w2 ⟨Az, mz, cz, rfl, ho, hb⟩
      rw [trim_eq_digs 1000000000 (by omega) _ G0.out] at ho
      have Oz := Lib.hid (ho.limbs)
      replace B := Lib.hid (B.out.trans (hb.mono B.out.size))
      clear hb ho
      go_wp2_with fail
      refine (text_c a0 n0 c0 x0 _ (H0.out.below B.out) G0.out (by omega)).mono ?_
      rintro e w3 ⟨s, rfl, hs, hb⟩
      have Ss := Lib.hid (hs)
      replace Oz := Lib.hid (Oz.out.below hb)
      replace B := Lib.hid (B.out.trans (hb.mono B.out.size))
      clear hb hs
      have zs : s.size ≤ 100000000 := by rw [Ss.out.size]; exact Nat.le_trans (decs_len V0.out) (by omega)
      go_wp2_with fail
      refine (number_c s _ _ Ss.out zs).mono ?_
      rintro e w7 ⟨Ay, my, cy, rfl, ho, hb⟩
      rw [dval_decs] at ho
      have Oy := Lib.hid (ho.limbs)
      replace Oz := Lib.hid (Oz.out.below hb)
      replace B := Lib.hid (B.out.trans (hb.mono B.out.size))
      clear hb ho
      go_wp2_with fail
      refine (same_c Az Ay mz cz my cy _ _ _ Oz.out Oy.out).mono ?_
      rw [decide_eq_true rfl]
      rintro e w8 ⟨rfl, hb⟩
      replace B := Lib.hid (B.out.trans (hb.mono B.out.size))
      clear hb 
      go_wp2
      go_ret
      exact ⟨rfl, B.out⟩
end Go.Proofs.Ytimpjodbfflakaa
