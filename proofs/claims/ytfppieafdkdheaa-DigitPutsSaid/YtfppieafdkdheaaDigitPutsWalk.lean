/-
  DigitPuts: the walk.
-/
import Derived.Test.YtfppieafdkdheaaUI
set_option maxRecDepth 100000
namespace Go.Proofs.Ytfppieafdkdheaa
open Go.RowKit
set_option maxHeartbeats 2000000 in
theorem walk_digitPuts (z : Int) (s : ByteArray) (w : World) (hz : -2147483648 ≤ z ∧ z ≤ 2147483647) (hs : s.size ≤ maxLen) :
    Calls Try.prog 4 #[.int .i32 z, .string s] w fun e w' => e = .returned (.bool true) ∧ Below w.heap.size w w' := by
  have hD := fun W => refDigits_d s W hs
  unfold maxLen at hs
  have hC3 := fun W => refZero_c z W hz
  by_cases h0 : z < 0
  · clear hD hC3
    go_enter Try.func4, Try.ntmps4
    go_wp2_with fail
    refine (answers12_c _).mono ?_
    rintro e w1 ⟨rfl, hb1⟩
    have B1 := Lib.hid hb1
    clear hb1
    go_wp2
    go_ret
    exact ⟨rfl, B1.out⟩
  rcases hsys : sysZ z with _ | _
  · rw [hsys] at hC3
    have C3 := Lib.hid hC3
    clear hD hC3 hsys
    go_enter Try.func4, Try.ntmps4
    go_wp2_with fail
    refine (C3.out _).mono ?_
    rintro e w1 ⟨rfl, rfl⟩
    go_wp2_with fail
    refine (answers12_c _).mono ?_
    rintro e w2 ⟨rfl, hb2⟩
    have B2 := Lib.hid hb2
    clear hb2
    go_wp2
    go_ret
    exact ⟨rfl, B2.out⟩
  rw [hsys] at hC3
  have C3 := Lib.hid hC3
  clear hC3
  by_cases hbig : 500 < s.size
  · have hbi : (500 : Int) < (s.size : Int) := by omega
    clear hD hsys
    go_enter Try.func4, Try.ntmps4
    go_wp2_with fail
    refine (C3.out _).mono ?_
    rintro e w1 ⟨rfl, rfl⟩
    go_wp2_with fail
    refine (answers12_c _).mono ?_
    rintro e w2 ⟨rfl, hb2⟩
    have B2 := Lib.hid hb2
    clear hb2
    go_wp2
    go_ret
    exact ⟨rfl, B2.out⟩
  have hbi : decide ((500 : Int) < (s.size : Int)) = false := decide_eq_false (by omega)
  obtain ⟨Z, rfl, hZ⟩ := sysZ_nat hsys
  have HS := Lib.hid hsys
  have hP := fun W => digitPut_c Z s W hsys (by omega)
  by_cases he : s.size = 0
  · obtain rfl : s = ⟨#[]⟩ := eq_stz (s := s) (List.eq_nil_of_length_eq_zero (by rw [bts_length]; exact he))
    rw [show bts ⟨#[]⟩ = [] from rfl, show putS Z [] = ⟨#[]⟩ from rfl] at hP
    have hG := fun W => digitGet_c Z ⟨#[]⟩ W hsys (by omega)
    rw [show bts ⟨#[]⟩ = [] from rfl, show getS Z [] = ⟨#[]⟩ from rfl, show getB Z [] = false from rfl] at hG
    have hQ := fun W => refPut_c Z ⟨#[]⟩ W hsys (by omega) rfl
    rw [show bts ⟨#[]⟩ = [] from rfl, show putS Z [] = ⟨#[]⟩ from rfl] at hQ
    have hR := fun W => digitRun_c Z ⟨#[]⟩ W hsys (by omega)
    rw [show bts ⟨#[]⟩ = [] from rfl, runN_nil] at hR
    have CP := Lib.hid hP
    have CG := Lib.hid hG
    have CQ := Lib.hid hQ
    have CR := Lib.hid hR
    clear hP hG hQ hR hD hsys
    go_enter Try.func4, Try.ntmps4
    go_wp2_with fail
    refine (C3.out _).mono ?_
    rintro e w1 ⟨rfl, rfl⟩
    go_wp2_with fail
    refine (CP.out _).mono ?_
    rintro e w2 ⟨rfl, hb2⟩
    have B2 := Lib.hid hb2
    clear hb2
    go_wp2_with fail
    refine (CG.out _).mono ?_
    rintro e w3 ⟨rfl, hb3⟩
    have B3 := Lib.hid (B2.out.trans (hb3.mono B2.out.size))
    clear hb3
    go_wp2_with fail
    refine (answers12_c _).mono ?_
    rintro e w4 ⟨rfl, hb4⟩
    have B4 := Lib.hid (B3.out.trans (hb4.mono B3.out.size))
    clear hb4
    go_wp2_with fail
    refine (CQ.out _).mono ?_
    rintro e w5 ⟨rfl, hb5⟩
    have B5 := Lib.hid (B4.out.trans (hb5.mono B4.out.size))
    clear hb5
    go_wp2_with fail
    refine (CR.out _).mono ?_
    rintro e w6 ⟨rfl, hb6⟩
    have B6 := Lib.hid (B5.out.trans (hb6.mono B5.out.size))
    clear hb6
    go_wp2
    go_ret
    exact ⟨rfl, B6.out⟩
  have hem : s.toList.isEmpty = false := by rw [isEmpty_bts]; exact decide_eq_false he
  rcases ho : okL (bts s) with _ | _
  · rw [show digD s = false by rw [digD, ho, Bool.and_false]] at hD
    rw [putS_no ho] at hP
    have CD := Lib.hid hD
    have CP := Lib.hid hP
    clear hP hD hsys ho
    go_enter Try.func4, Try.ntmps4
    go_wp2_with fail
    refine (C3.out _).mono ?_
    rintro e w1 ⟨rfl, rfl⟩
    go_wp2_with fail
    refine (CP.out _).mono ?_
    rintro e w2 ⟨rfl, hb2⟩
    have B2 := Lib.hid hb2
    clear hb2
    go_wp2_with fail
    refine (CD.out _).mono ?_
    rintro e w3 ⟨rfl, rfl⟩
    go_wp2_with fail
    refine (answers12_c _).mono ?_
    rintro e w4 ⟨rfl, hb4⟩
    have B4 := Lib.hid (B2.out.trans (hb4.mono B2.out.size))
    clear hb4
    go_wp2
    go_ret
    exact ⟨rfl, B4.out⟩
  rw [show digD s = true by rw [digD, ho, Bool.and_true]; exact decide_eq_true (by omega)] at hD
  have hps := putS_size Z (bts s)
  rw [bts_length] at hps
  have hne : hi Z (bts s) ≠ [] := by
    intro h
    have := congrArg List.length h
    rw [hi_length, bts_length] at this
    exact he this
  have hbp := bts_put hsys ho
  have hge := getS_encs hsys (hi_inS ho) hne
  have hG := fun W => digitGet_c Z (putS Z (bts s)) W hsys (by omega)
  rw [hbp, hge.1, hge.2.1, low_hi ho, stz_bts] at hG
  have hQ := fun W => refPut_c Z s W hsys (by omega) ho
  have hR := fun W => digitRun_c Z (putS Z (bts s)) W hsys (by omega)
  have hlen : (encs (hi Z (bts s))).length = (putS Z (bts s)).size := by rw [← hbp, bts_length]
  rw [hbp, hge.2.2, hlen] at hR
  clear hbp hge hlen hne
  generalize putS Z (bts s) = T at *
  have CD := Lib.hid hD
  have CP := Lib.hid hP
  have CG := Lib.hid hG
  have CQ := Lib.hid hQ
  have CR := Lib.hid hR
  clear hP hD hG hQ hR hsys ho
  go_enter Try.func4, Try.ntmps4
  go_wp2_with fail
  refine (C3.out _).mono ?_
  rintro e w1 ⟨rfl, rfl⟩
  go_wp2_with fail
  refine (CP.out _).mono ?_
  rintro e w2 ⟨rfl, hb2⟩
  have B2 := Lib.hid hb2
  clear hb2
  go_wp2_with fail
  refine (CD.out _).mono ?_
  rintro e w3 ⟨rfl, rfl⟩
  go_wp2_with fail
  refine (CG.out _).mono ?_
  rintro e w4 ⟨rfl, hb4⟩
  have B4 := Lib.hid (B2.out.trans (hb4.mono B2.out.size))
  clear hb4
  go_wp2_with fail
  refine (answers12_c _).mono ?_
  rintro e w5 ⟨rfl, hb5⟩
  have B5 := Lib.hid (B4.out.trans (hb5.mono B4.out.size))
  clear hb5
  go_wp2_with fail
  refine (CQ.out _).mono ?_
  rintro e w6 ⟨rfl, hb6⟩
  have B6 := Lib.hid (B5.out.trans (hb6.mono B5.out.size))
  clear hb6
  go_wp2_with fail
  refine (CR.out _).mono ?_
  rintro e w7 ⟨rfl, hb7⟩
  have B7 := Lib.hid (B6.out.trans (hb7.mono B6.out.size))
  clear hb7
  go_wp2
  go_ret
  exact ⟨by simp, B7.out⟩
end Go.Proofs.Ytfppieafdkdheaa
