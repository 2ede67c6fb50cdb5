/-
  UtfJoins: the walk.
-/
import Derived.Test.YtibmohnpgpbjoaaUE
set_option maxRecDepth 100000
namespace Go.Proofs.Ytibmohnpgpbjoaa
open Go.RowKit
theorem badZ_cases (l : List Nat) : (rst l = [] ∧ badZ l = -1) ∨ (rst l ≠ [] ∧ ∃ p : Nat, badZ l = (p : Int)) := by
  by_cases h : rst l = []
  · exact .inl ⟨h, badZ_right h⟩
  · exact .inr ⟨h, _, badZ_wrong h⟩
set_option maxHeartbeats 4000000 in
theorem walk_utfJoins (a b : ByteArray) (w : World) (hsa : a.size ≤ maxLen) (hsb : b.size ≤ maxLen) :
    Calls Try.prog 5 #[.string a, .string b] w fun e w' => e = .returned (.bool true) ∧ Below w.heap.size w w' := by
  unfold maxLen at hsa hsb
  by_cases ha : 500 < a.size
  · go_enter Try.func5, Try.ntmps5
    go_wp2_with fail
    refine (answers11_c _).mono ?_
    rintro e w1 ⟨rfl, hb⟩
    go_wp2
    go_ret
    exact ⟨rfl, hb⟩
  by_cases hb : 500 < b.size
  · go_enter Try.func5, Try.ntmps5
    go_wp2_with fail
    refine (answers11_c _).mono ?_
    rintro e w1 ⟨rfl, hb⟩
    go_wp2
    go_ret
    exact ⟨rfl, hb⟩
  have hc1 := Lib.hid (fun W => utfBad_c a W (by omega))
  have hc2 := Lib.hid (fun W => utfBad_c b W (by omega))
  have hab : (a ++ b).size = a.size + b.size := ByteArray.size_append
  have hc3 := fun W => utfBad_c (a ++ b) W (by omega)
  have hc4 := fun W => utfCount_c (a ++ b) W (by omega)
  have hc5 := fun W => utfCount_c a W (by omega)
  have hc6 := fun W => utfCount_c b W (by omega)
  rcases badZ_cases (bts a) with ⟨hra, hza⟩ | ⟨_, p, hza⟩
  · rcases badZ_cases (bts b) with ⟨hrb, hzb⟩ | ⟨hrb, p, hzb⟩
    · have hz3 : badZ (bts (a ++ b)) = -1 := by rw [bts_append, badZ_join (bts_lt a) hra, if_pos hrb]
      have hr3 : rst (bts (a ++ b)) = [] := by rw [bts_append, (rst_join (bts_lt a) hra).1]; exact hrb
      have hn3 : (pts (bts (a ++ b))).length = (pts (bts a)).length + (pts (bts b)).length := by
        rw [(rgt_true hr3).2, (rgt_true hra).2, (rgt_true hrb).2, bts_append, (rst_join (bts_lt a) hra).2, List.length_append]
      have hla := pts_len (bts_lt a)
      have hlb := pts_len (bts_lt b)
      rw [bts_length] at hla hlb
      rw [hza] at hc1
      rw [hzb] at hc2
      rw [hz3] at hc3
      rw [hn3] at hc4
      generalize (pts (bts a)).length = na at *
      generalize (pts (bts b)).length = nb at *
      have C3 := Lib.hid hc3
      have C4 := Lib.hid hc4
      have C5 := Lib.hid hc5
      have C6 := Lib.hid hc6
      clear hc3 hc4 hc5 hc6 hz3 hr3 hn3 hza hzb hra hrb
      go_enter Try.func5, Try.ntmps5
      go_wp2_with fail
      refine (hc1.out _).mono ?_
      rintro e w1 ⟨rfl, hb1⟩
      have B1 := Lib.hid hb1
      clear hb1
      go_wp2_with fail
      refine (hc2.out _).mono ?_
      rintro e w2 ⟨rfl, hb2⟩
      have B2 := Lib.hid (B1.out.trans (hb2.mono B1.out.size))
      clear hb2
      go_wp2_with fail
      refine (answers11_c _).mono ?_
      rintro e w3 ⟨rfl, hb3⟩
      have B3 := Lib.hid (B2.out.trans (hb3.mono B2.out.size))
      clear hb3
      go_wp2_with fail
      refine (C3.out _).mono ?_
      rintro e w4 ⟨rfl, hb4⟩
      have B4 := Lib.hid (B3.out.trans (hb4.mono B3.out.size))
      clear hb4
      go_wp2_with fail
      refine (C4.out _).mono ?_
      rintro e w5 ⟨rfl, hb5⟩
      have B5 := Lib.hid (B4.out.trans (hb5.mono B4.out.size))
      clear hb5
      go_wp2_with fail
      refine (C5.out _).mono ?_
      rintro e w6 ⟨rfl, hb6⟩
      have B6 := Lib.hid (B5.out.trans (hb6.mono B5.out.size))
      clear hb6
      go_wp2_with fail
      refine (C6.out _).mono ?_
      rintro e w7 ⟨rfl, hb7⟩
      have B7 := Lib.hid (B6.out.trans (hb7.mono B6.out.size))
      clear hb7
      go_wp2
      go_ret
      exact ⟨by simp, B7.out⟩
    · have hz3 : badZ (bts (a ++ b)) = (a.size : Int) + (p : Int) := by rw [bts_append, badZ_join (bts_lt a) hra, if_neg hrb, bts_length, hzb]
      have hpr := (badZ_range (bts_lt b)).2
      rw [hzb, bts_length] at hpr
      rw [hza] at hc1
      rw [hzb] at hc2
      rw [hz3] at hc3
      have C3 := Lib.hid hc3
      clear hc3 hc4 hc5 hc6 hz3 hza hzb hra hrb
      go_enter Try.func5, Try.ntmps5
      go_wp2_with fail
      refine (hc1.out _).mono ?_
      rintro e w1 ⟨rfl, hb1⟩
      have B1 := Lib.hid hb1
      clear hb1
      go_wp2_with fail
      refine (hc2.out _).mono ?_
      rintro e w2 ⟨rfl, hb2⟩
      have B2 := Lib.hid (B1.out.trans (hb2.mono B1.out.size))
      clear hb2
      go_wp2_with fail
      refine (answers11_c _).mono ?_
      rintro e w3 ⟨rfl, hb3⟩
      have B3 := Lib.hid (B2.out.trans (hb3.mono B2.out.size))
      clear hb3
      go_wp2_with fail
      refine (C3.out _).mono ?_
      rintro e w4 ⟨rfl, hb4⟩
      have B4 := Lib.hid (B3.out.trans (hb4.mono B3.out.size))
      clear hb4
      go_wp2
      go_ret
      exact ⟨by simp, B4.out⟩
  · rw [hza] at hc1
    clear hc3 hc4 hc5 hc6 hza
    go_enter Try.func5, Try.ntmps5
    go_wp2_with fail
    refine (hc1.out _).mono ?_
    rintro e w1 ⟨rfl, hb1⟩
    have B1 := Lib.hid hb1
    clear hb1
    go_wp2_with fail
    refine (answers11_c _).mono ?_
    rintro e w3 ⟨rfl, hb3⟩
    have B3 := Lib.hid (B1.out.trans (hb3.mono B1.out.size))
    clear hb3
    go_wp2
    go_ret
    exact ⟨rfl, B3.out⟩
end Go.Proofs.Ytibmohnpgpbjoaa
