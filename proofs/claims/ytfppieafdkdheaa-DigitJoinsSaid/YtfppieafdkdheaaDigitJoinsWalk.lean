/-
  DigitJoins: the walk.
-/
import Derived.Test.YtfppieafdkdheaaUI
set_option maxRecDepth 100000
namespace Go.Proofs.Ytfppieafdkdheaa
open Go.RowKit
set_option maxHeartbeats 2000000 in
theorem walk_digitJoins (z : Int) (a b : ByteArray) (r : Int) (w : World) (hz : -2147483648 ≤ z ∧ z ≤ 2147483647) (hsa : a.size ≤ 140737488355328) (hsb : b.size ≤ 140737488355328) (hr : -2147483648 ≤ r ∧ r ≤ 2147483647) :
    Calls Try.prog 7 #[.int .i32 z, .string a, .string b, .int .i32 r] w fun e w' => e = .returned (.bool true) ∧ Below w.heap.size w w' := by
  have hDa := fun W => refDigits_d a W (by unfold maxLen; omega)
  have hDb := fun W => refDigits_d b W (by unfold maxLen; omega)
  have hC3 := fun W => refZero_c z W hz
  have hC4 := fun W => refScalar_c r W
  by_cases h0 : z < 0
  · clear hDa hDb hC3 hC4
    go_enter Try.func7, Try.ntmps7
    go_wp2_with fail
    refine (answers12_c _).mono ?_
    rintro e w1 ⟨rfl, hb1⟩
    have B1 := Lib.hid hb1
    clear hb1
    go_wp2
    go_ret
    exact ⟨rfl, B1.out⟩
  rcases hsys : sysZ z with _ | _
  · rw [hsys] at hC3
    have C3 := Lib.hid hC3
    clear hDa hDb hC3 hC4 hsys
    go_enter Try.func7, Try.ntmps7
    go_wp2_with fail
    refine (C3.out _).mono ?_
    rintro e w1 ⟨rfl, rfl⟩
    go_wp2_with fail
    refine (answers12_c _).mono ?_
    rintro e w2 ⟨rfl, hb2⟩
    have B2 := Lib.hid hb2
    clear hb2
    go_wp2
    go_ret
    exact ⟨rfl, B2.out⟩
  rw [hsys] at hC3
  have C3 := Lib.hid hC3
  clear hC3
  obtain ⟨Z, rfl, hZ⟩ := sysZ_nat hsys
  rcases hda : digD a with _ | _
  · rw [hda] at hDa
    have CA := Lib.hid hDa
    clear hDa hDb hsys hda hC4
    go_enter Try.func7, Try.ntmps7
    go_wp2_with fail
    refine (C3.out _).mono ?_
    rintro e w1 ⟨rfl, rfl⟩
    go_wp2_with fail
    refine (CA.out _).mono ?_
    rintro e w2 ⟨rfl, rfl⟩
    go_wp2_with fail
    refine (answers12_c _).mono ?_
    rintro e w3 ⟨rfl, hb3⟩
    have B3 := Lib.hid hb3
    clear hb3
    go_wp2
    go_ret
    exact ⟨rfl, B3.out⟩
  rw [hda] at hDa
  have CA := Lib.hid hDa
  clear hDa
  rcases hdb : digD b with _ | _
  · rw [hdb] at hDb
    have CB := Lib.hid hDb
    clear hDb hsys hda hdb hC4
    go_enter Try.func7, Try.ntmps7
    go_wp2_with fail
    refine (C3.out _).mono ?_
    rintro e w1 ⟨rfl, rfl⟩
    go_wp2_with fail
    refine (CA.out _).mono ?_
    rintro e w2 ⟨rfl, rfl⟩
    go_wp2_with fail
    refine (CB.out _).mono ?_
    rintro e w3 ⟨rfl, rfl⟩
    go_wp2_with fail
    refine (answers12_c _).mono ?_
    rintro e w4 ⟨rfl, hb4⟩
    have B4 := Lib.hid hb4
    clear hb4
    go_wp2
    go_ret
    exact ⟨rfl, B4.out⟩
  rw [hdb] at hDb
  have CB := Lib.hid hDb
  clear hDb
  by_cases hbig : 200 < a.size + b.size
  · have hbi : (200 : Int) < (a.size : Int) + (b.size : Int) := by omega
    clear hsys hda hdb hC4
    go_enter Try.func7, Try.ntmps7
    go_wp2_with fail
    refine (C3.out _).mono ?_
    rintro e w1 ⟨rfl, rfl⟩
    go_wp2_with fail
    refine (CA.out _).mono ?_
    rintro e w2 ⟨rfl, rfl⟩
    go_wp2_with fail
    refine (CB.out _).mono ?_
    rintro e w3 ⟨rfl, rfl⟩
    go_wp2_with fail
    refine (answers12_c _).mono ?_
    rintro e w4 ⟨rfl, hb4⟩
    have B4 := Lib.hid hb4
    clear hb4
    go_wp2
    go_ret
    exact ⟨rfl, B4.out⟩
  have hbi : decide ((200 : Int) < (a.size : Int) + (b.size : Int)) = false := decide_eq_false (by omega)
  rcases hiz : isZ r with _ | _
  · rw [hiz] at hC4
    have C4 := Lib.hid hC4
    clear hC4 hsys hda hdb hiz
    go_enter Try.func7, Try.ntmps7
    go_wp2_with fail
    refine (C3.out _).mono ?_
    rintro e w1 ⟨rfl, rfl⟩
    go_wp2_with fail
    refine (CA.out _).mono ?_
    rintro e w2 ⟨rfl, rfl⟩
    go_wp2_with fail
    refine (CB.out _).mono ?_
    rintro e w3 ⟨rfl, rfl⟩
    go_wp2_with fail
    refine (C4.out _).mono ?_
    rintro e w4 ⟨rfl, rfl⟩
    go_wp2_with fail
    refine (answers12_c _).mono ?_
    rintro e w5 ⟨rfl, hb5⟩
    have B5 := Lib.hid hb5
    clear hb5
    go_wp2
    go_ret
    exact ⟨rfl, B5.out⟩
  rw [hiz] at hC4
  have hi0 := isZ_iff.1 hiz
  obtain ⟨c, rfl⟩ : ∃ c : Nat, r = (c : Int) := ⟨r.toNat, by omega⟩
  have hcc : isC c = true := by rwa [isZ_nat] at hiz
  have C4 := Lib.hid hC4
  clear hC4 hiz hi0
  have hcle := isC_le hcc
  have kw : IntKind.i32.wrap ((c : Int) - (Z : Int)) = (c : Int) - (Z : Int) := IntWalk.i32_in _ (by omega)
  by_cases hin : (Z : Int) ≤ (c : Int) ∧ (c : Int) - (Z : Int) < 10
  · have hi1 := hin.1
    have hi2 := hin.2
    clear hsys hda hdb hin hcc
    go_enter Try.func7, Try.ntmps7
    go_wp2_with fail
    refine (C3.out _).mono ?_
    rintro e w1 ⟨rfl, rfl⟩
    go_wp2_with fail
    refine (CA.out _).mono ?_
    rintro e w2 ⟨rfl, rfl⟩
    go_wp2_with fail
    refine (CB.out _).mono ?_
    rintro e w3 ⟨rfl, rfl⟩
    go_wp2_with fail
    refine (C4.out _).mono ?_
    rintro e w4 ⟨rfl, rfl⟩
    go_wp2_with fail
    refine (answers12_c _).mono ?_
    rintro e w5 ⟨rfl, hb5⟩
    have B5 := Lib.hid hb5
    clear hb5
    go_wp2
    go_ret
    exact ⟨rfl, B5.out⟩
  have ha := digD_true hda
  have hb := digD_true hdb
  clear hda hdb
  have hbs : a.size + b.size ≤ 200 := by omega
  have hab : (a ++ b).size = a.size + b.size := ByteArray.size_append
  have hok : okL (bts a ++ bts b) = true := okL_append.2 ⟨ha.2, hb.2⟩
  have hPa := fun W => digitPut_c Z a W hsys (by omega)
  have hPb := fun W => digitPut_c Z b W hsys (by omega)
  have hPab := fun W => digitPut_c Z (a ++ b) W hsys (by omega)
  have hpa := putS_size Z (bts a)
  have hpb := putS_size Z (bts b)
  rw [bts_length] at hpa hpb
  have hba := bts_put hsys ha.2
  have hbb := bts_put hsys hb.2
  have happ : putS Z (bts (a ++ b)) = putS Z (bts a) ++ putS Z (bts b) := by rw [bts_append, putS_append ha.2 hb.2]
  have hni : inS Z c = false := by
    rw [Bool.eq_false_iff]
    intro h
    have := inS_iff.1 h
    omega
  have hel : (stz (encN c)).size ≤ 4 := by rw [stz_size]; exact encN_le c
  have hep : 0 < (stz (encN c)).size := by rw [stz_size]; exact encN_pos c
  have hsz1 : (putS Z (bts a) ++ putS Z (bts b)).size = (putS Z (bts a)).size + (putS Z (bts b)).size := ByteArray.size_append
  have hsz2 : (putS Z (bts a) ++ stz (encN c)).size = (putS Z (bts a)).size + (stz (encN c)).size := ByteArray.size_append
  have hsz3 : (putS Z (bts a) ++ stz (encN c) ++ putS Z (bts b)).size = (putS Z (bts a) ++ stz (encN c)).size + (putS Z (bts b)).size := ByteArray.size_append
  have hj : bts (putS Z (bts a) ++ stz (encN c) ++ putS Z (bts b)) = encs (hi Z (bts a)) ++ (encN c ++ encs (hi Z (bts b))) := by rw [bts_append, bts_append, bts_stz (encN_lt hcc), hba, hbb, List.append_assoc]
  have hrun : runN Z (bts (putS Z (bts a) ++ stz (encN c) ++ putS Z (bts b))) = (putS Z (bts a)).size := by
    rw [hj, runN_behind hsys (hi_inS ha.2) hcc hni, ← hba, bts_length]
  have hno := getS_no (Z := Z) (l := bts (putS Z (bts a) ++ stz (encN c) ++ putS Z (bts b))) (by rw [hrun, bts_length]; omega)
  have hne : hi Z (bts a ++ bts b) ≠ [] := by
    intro h
    have := congrArg List.length h
    rw [hi_length, List.length_append, bts_length, bts_length, List.length_nil] at this
    omega
  have hge := getS_encs hsys (hi_inS hok) hne
  have hb2 : bts (putS Z (bts a) ++ putS Z (bts b)) = encs (hi Z (bts a ++ bts b)) := by rw [← happ, bts_append, bts_put hsys hok]
  rw [← hb2, low_hi hok, ← bts_append, stz_bts] at hge
  have hG1 := fun W => digitGet_c Z (putS Z (bts a) ++ stz (encN c) ++ putS Z (bts b)) W hsys (by omega)
  have hG2 := fun W => digitGet_c Z (putS Z (bts a) ++ putS Z (bts b)) W hsys (by omega)
  have hR := fun W => digitRun_c Z (putS Z (bts a) ++ stz (encN c) ++ putS Z (bts b)) W hsys (by omega)
  rw [hno.1, hno.2] at hG1
  rw [hge.1, hge.2.1] at hG2
  rw [hrun] at hR
  rw [happ] at hPab
  have HCC := Lib.hid hcc
  clear hrun hno hge hb2 hne hj hni happ hba hbb hok
  generalize putS Z (bts a) = T at *
  generalize putS Z (bts b) = U at *
  have CPA := Lib.hid hPa
  have CPB := Lib.hid hPb
  have CPAB := Lib.hid hPab
  have CG1 := Lib.hid hG1
  have CG2 := Lib.hid hG2
  have CR := Lib.hid hR
  have CBY := Lib.hid (fun W => refBytes_c c W HCC.out)
  clear hPa hPb hPab hG1 hG2 hR hsys ha hb hbig hcc
  by_cases hi1 : (Z : Int) ≤ (c : Int)
  · have hi2 : ¬ (c : Int) - (Z : Int) < 10 := by omega
    clear hin
    go_enter Try.func7, Try.ntmps7
    go_wp2_with fail
    refine (C3.out _).mono ?_
    rintro e w1 ⟨rfl, rfl⟩
    go_wp2_with fail
    refine (CA.out _).mono ?_
    rintro e w2 ⟨rfl, rfl⟩
    go_wp2_with fail
    refine (CB.out _).mono ?_
    rintro e w3 ⟨rfl, rfl⟩
    go_wp2_with fail
    refine (C4.out _).mono ?_
    rintro e w4 ⟨rfl, rfl⟩
    go_wp2_with fail
    refine (CPA.out _).mono ?_
    rintro e w5 ⟨rfl, hb5⟩
    have B5 := Lib.hid hb5
    clear hb5
    go_wp2_with fail
    refine (CPB.out _).mono ?_
    rintro e w6 ⟨rfl, hb6⟩
    have B6 := Lib.hid (B5.out.trans (hb6.mono B5.out.size))
    clear hb6
    go_wp2_with fail
    refine (CBY.out _).mono ?_
    rintro e w7 ⟨A7, m7, k7, rfl, ho7, hm7, hb7⟩
    have B7 := Lib.hid (B6.out.trans (hb7.mono B6.out.size))
    have hcv := conv_own_stz ho7 (encN_lt HCC.out)
    clear ho7 hb7 hm7
    go_wp2_with fail
    refine (CG1.out _).mono ?_
    rintro e w8 ⟨rfl, hb8⟩
    have B8 := Lib.hid (B7.out.trans (hb8.mono B7.out.size))
    clear hb8
    go_wp2_with fail
    refine (CG2.out _).mono ?_
    rintro e w9 ⟨rfl, hb9⟩
    have B9 := Lib.hid (B8.out.trans (hb9.mono B8.out.size))
    clear hb9
    go_wp2_with fail
    refine (answers12_c _).mono ?_
    rintro e w10 ⟨rfl, hb10⟩
    have B10 := Lib.hid (B9.out.trans (hb10.mono B9.out.size))
    clear hb10
    go_wp2_with fail
    refine (CPAB.out _).mono ?_
    rintro e w11 ⟨rfl, hb11⟩
    have B11 := Lib.hid (B10.out.trans (hb11.mono B10.out.size))
    clear hb11
    go_wp2_with fail
    refine (CR.out _).mono ?_
    rintro e w12 ⟨rfl, hb12⟩
    have B12 := Lib.hid (B11.out.trans (hb12.mono B11.out.size))
    clear hb12
    go_wp2
    go_ret
    exact ⟨by simp, B12.out⟩
  · clear hin
    go_enter Try.func7, Try.ntmps7
    go_wp2_with fail
    refine (C3.out _).mono ?_
    rintro e w1 ⟨rfl, rfl⟩
    go_wp2_with fail
    refine (CA.out _).mono ?_
    rintro e w2 ⟨rfl, rfl⟩
    go_wp2_with fail
    refine (CB.out _).mono ?_
    rintro e w3 ⟨rfl, rfl⟩
    go_wp2_with fail
    refine (C4.out _).mono ?_
    rintro e w4 ⟨rfl, rfl⟩
    go_wp2_with fail
    refine (CPA.out _).mono ?_
    rintro e w5 ⟨rfl, hb5⟩
    have B5 := Lib.hid hb5
    clear hb5
    go_wp2_with fail
    refine (CPB.out _).mono ?_
    rintro e w6 ⟨rfl, hb6⟩
    have B6 := Lib.hid (B5.out.trans (hb6.mono B5.out.size))
    clear hb6
    go_wp2_with fail
    refine (CBY.out _).mono ?_
    rintro e w7 ⟨A7, m7, k7, rfl, ho7, hm7, hb7⟩
    have B7 := Lib.hid (B6.out.trans (hb7.mono B6.out.size))
    have hcv := conv_own_stz ho7 (encN_lt HCC.out)
    clear ho7 hb7 hm7
    go_wp2_with fail
    refine (CG1.out _).mono ?_
    rintro e w8 ⟨rfl, hb8⟩
    have B8 := Lib.hid (B7.out.trans (hb8.mono B7.out.size))
    clear hb8
    go_wp2_with fail
    refine (CG2.out _).mono ?_
    rintro e w9 ⟨rfl, hb9⟩
    have B9 := Lib.hid (B8.out.trans (hb9.mono B8.out.size))
    clear hb9
    go_wp2_with fail
    refine (answers12_c _).mono ?_
    rintro e w10 ⟨rfl, hb10⟩
    have B10 := Lib.hid (B9.out.trans (hb10.mono B9.out.size))
    clear hb10
    go_wp2_with fail
    refine (CPAB.out _).mono ?_
    rintro e w11 ⟨rfl, hb11⟩
    have B11 := Lib.hid (B10.out.trans (hb11.mono B10.out.size))
    clear hb11
    go_wp2_with fail
    refine (CR.out _).mono ?_
    rintro e w12 ⟨rfl, hb12⟩
    have B12 := Lib.hid (B11.out.trans (hb12.mono B11.out.size))
    clear hb12
    go_wp2
    go_ret
    exact ⟨by simp, B12.out⟩
end Go.Proofs.Ytfppieafdkdheaa
