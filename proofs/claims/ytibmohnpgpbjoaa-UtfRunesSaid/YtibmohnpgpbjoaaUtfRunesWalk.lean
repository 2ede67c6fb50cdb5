/-
  UtfRunes: the walk.
-/
import Derived.Test.YtibmohnpgpbjoaaUE
set_option maxRecDepth 100000
namespace Go.Proofs.Ytibmohnpgpbjoaa
open Go.RowKit
set_option maxHeartbeats 2000000 in
theorem walk_utfRunes (s : ByteArray) (w : World) (hs : s.size ≤ maxLen) :
    Calls Try.prog 3 #[.string s] w fun e w' => e = .returned (.bool true) ∧ Below w.heap.size w w' := by
  unfold maxLen at hs
  by_cases hbig : 2000 < s.size
  · go_enter Try.func3, Try.ntmps3
    go_wp2_with fail
    refine (answers11_c _).mono ?_
    rintro e w1 ⟨rfl, hb⟩
    go_wp2
    go_ret
    exact ⟨rfl, hb⟩
  · have hsz : s.size ≤ 2000 := by omega
    have hc1 := refRunes_c s w (by omega)
    have hc2 := fun W => utfRunes_c s W (by omega)
    have hc3 := fun W => utfBad_c s W (by omega)
    have hc4 := fun W => utfCount_c s W (by omega)
    have hl0 := Nat.le_trans (pts_len (bts_lt s)) (Nat.le_of_eq (bts_length s))
    have hbz : (rgt (bts s) = true ∧ badZ (bts s) < 0) ∨ (rgt (bts s) = false ∧ 0 ≤ badZ (bts s)) := by
      by_cases hr : rst (bts s) = []
      · exact .inl ⟨(rgt_true hr).1, by rw [badZ_right hr]; decide⟩
      · exact .inr ⟨(rgt_false hr).1, by rw [badZ_wrong hr]; omega⟩
    generalize rgt (bts s) = R at *
    generalize badZ (bts s) = Z at *
    generalize pts (bts s) = cs at *
    have C1 := Lib.hid hc1
    have C2 := Lib.hid hc2
    have C3 := Lib.hid hc3
    have C4 := Lib.hid hc4
    clear hc1 hc2 hc3 hc4
    go_enter Try.func3, Try.ntmps3
    go_wp2_with fail
    refine C1.out.mono ?_
    rintro e w1 ⟨A1, m1, c1, rfl, ho1, hb1⟩
    have hm1 : m1 = cs.length := by rw [← ho1.len, ints_length]
    subst hm1
    have B1 := Lib.hid hb1
    have R1 := Lib.hid ho1.rns
    clear ho1 hb1
    go_wp2_with fail
    refine (C2.out _).mono ?_
    rintro e w2 ⟨A2, m2, c2, rfl, ho2, hb2⟩
    have hm2 : m2 = cs.length := by rw [← ho2.len, ints_length]
    subst hm2
    have B2 := Lib.hid (B1.out.trans (hb2.mono B1.out.size))
    have R12 := Lib.hid (R1.out.below hb2)
    have R2 := Lib.hid ho2.rns
    clear ho2 hb2 R1
    go_wp2_with fail
    refine (answers11_c _).mono ?_
    rintro e w3 ⟨rfl, hb3⟩
    have B3 := Lib.hid (B2.out.trans (hb3.mono B2.out.size))
    replace R12 := Lib.hid (R12.out.below hb3)
    replace R2 := Lib.hid (R2.out.below hb3)
    clear hb3
    go_wp2_with fail
    refine (C3.out _).mono ?_
    rintro e w4 ⟨rfl, hb4⟩
    have B4 := Lib.hid (B3.out.trans (hb4.mono B3.out.size))
    replace R12 := Lib.hid (R12.out.below hb4)
    replace R2 := Lib.hid (R2.out.below hb4)
    clear hb4
    rcases hbz with ⟨rfl, hz⟩ | ⟨rfl, hz⟩
    · go_wp2_with fail
      refine (sameR_c A1 A2 _ c1 _ c2 _ _ _ R12.out R2.out).mono ?_
      rw [decide_eq_true rfl]
      rintro e w5 ⟨rfl, hb5⟩
      have B5 := Lib.hid (B4.out.trans (hb5.mono B4.out.size))
      clear hb5
      go_wp2_with fail
      refine (C4.out _).mono ?_
      rintro e w6 ⟨rfl, hb6⟩
      have B6 := Lib.hid (B5.out.trans (hb6.mono B5.out.size))
      clear hb6
      go_wp2
      go_ret
      exact ⟨rfl, B6.out⟩
    · have hz2 : ¬ Z < 0 := by omega
      go_wp2_with fail
      refine (sameR_c A1 A2 _ c1 _ c2 _ _ _ R12.out R2.out).mono ?_
      rw [decide_eq_true rfl]
      rintro e w5 ⟨rfl, hb5⟩
      have B5 := Lib.hid (B4.out.trans (hb5.mono B4.out.size))
      clear hb5
      go_wp2_with fail
      refine (C4.out _).mono ?_
      rintro e w6 ⟨rfl, hb6⟩
      have B6 := Lib.hid (B5.out.trans (hb6.mono B5.out.size))
      clear hb6
      go_wp2
      go_ret
      exact ⟨by rw [decide_eq_false (show ¬ Z < 0 by omega)]; rfl, B6.out⟩
end Go.Proofs.Ytibmohnpgpbjoaa
