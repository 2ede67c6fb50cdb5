/-
  DigitMixed: the walk.
-/
import Derived.Test.YtfppieafdkdheaaUI
set_option maxRecDepth 100000
namespace Go.Proofs.Ytfppieafdkdheaa
open Go.RowKit
/-- Digits of two systems that share none are none of one. -/
theorem mixed {Z Y : Nat} (hZ : sysZ (Z : Int) = true) (hY : sysZ (Y : Int) = true) (hn : Z + 10 ≤ Y ∨ Y + 10 ≤ Z) {a b : ByteArray} (ha0 : 0 < a.size) (ha : okL (bts a) = true) (hb0 : 0 < b.size) (hb : okL (bts b) = true) :
    ¬ (0 < (encs (hi Z (bts a)) ++ encs (hi Y (bts b))).length ∧ runN Z (encs (hi Z (bts a)) ++ encs (hi Y (bts b))) = (encs (hi Z (bts a)) ++ encs (hi Y (bts b))).length) ∧
    ¬ (0 < (encs (hi Z (bts a)) ++ encs (hi Y (bts b))).length ∧ runN Y (encs (hi Z (bts a)) ++ encs (hi Y (bts b))) = (encs (hi Z (bts a)) ++ encs (hi Y (bts b))).length) ∧
    runN Z (encs (hi Z (bts a)) ++ encs (hi Y (bts b))) = (encs (hi Z (bts a))).length := by
  have hla : 0 < (hi Z (bts a)).length := by rw [hi_length, bts_length]; exact ha0
  have hlb : 0 < (hi Y (bts b)).length := by rw [hi_length, bts_length]; exact hb0
  have hia := hi_inS (Z := Z) ha
  have hib := hi_inS (Z := Y) hb
  generalize hi Z (bts a) = xs at *
  generalize hi Y (bts b) = ys at *
  rcases xs with _ | ⟨x, xs⟩
  · simp at hla
  rcases ys with _ | ⟨y, ys⟩
  · simp at hlb
  have hx := inS_iff.1 (List.all_eq_true.1 hia x (List.mem_cons_self ..))
  have hy := inS_iff.1 (List.all_eq_true.1 hib y (List.mem_cons_self ..))
  have hyc := inS_isC hY (inS_iff.2 hy)
  have hxc := inS_isC hZ (inS_iff.2 hx)
  have hny : inS Z y = false := by rw [Bool.eq_false_iff]; intro h; have := inS_iff.1 h; omega
  have hnx : inS Y x = false := by rw [Bool.eq_false_iff]; intro h; have := inS_iff.1 h; omega
  have h1 := runN_behind hZ hia hyc hny (encs ys)
  rw [← encs_cons] at h1
  have h2 := runN_behind hY (cs := []) rfl hxc hnx (encs xs ++ encs (y :: ys))
  rw [encs_nil, List.nil_append, List.length_nil, ← List.append_assoc, ← encs_cons] at h2
  have hp1 := encs_len (x :: xs)
  have hp2 := encs_len (y :: ys)
  rw [List.length_cons] at hp1 hp2
  refine ⟨fun h => ?_, fun h => ?_, h1⟩
  · have := h.2
    rw [h1, List.length_append] at this
    omega
  · have := h.2
    rw [h2, List.length_append] at this
    omega
set_option maxHeartbeats 2000000 in
theorem walk_digitMixed (z y : Int) (a b : ByteArray) (w : World) (hz : -2147483648 ≤ z ∧ z ≤ 2147483647) (hy : -2147483648 ≤ y ∧ y ≤ 2147483647) (hsa : a.size ≤ 140737488355328) (hsb : b.size ≤ 140737488355328) :
    Calls Try.prog 6 #[.int .i32 z, .int .i32 y, .string a, .string b] w fun e w' => e = .returned (.bool true) ∧ Below w.heap.size w w' := by
  have hDa := fun W => refDigits_d a W (by unfold maxLen; omega)
  have hDb := fun W => refDigits_d b W (by unfold maxLen; omega)
  have hC3 := fun W => refZero_c z W hz
  have hC4 := fun W => refZero_c y W hy
  by_cases h0 : z < 0
  · clear hDa hDb hC3 hC4
    go_enter Try.func6, Try.ntmps6
    go_wp2_with fail
    refine (answers12_c _).mono ?_
    rintro e w1 ⟨rfl, hb1⟩
    have B1 := Lib.hid hb1
    clear hb1
    go_wp2
    go_ret
    exact ⟨rfl, B1.out⟩
  rcases hsys : sysZ z with _ | _
  · rw [hsys] at hC3
    have C3 := Lib.hid hC3
    clear hDa hDb hC3 hC4 hsys
    go_enter Try.func6, Try.ntmps6
    go_wp2_with fail
    refine (C3.out _).mono ?_
    rintro e w1 ⟨rfl, rfl⟩
    go_wp2_with fail
    refine (answers12_c _).mono ?_
    rintro e w2 ⟨rfl, hb2⟩
    have B2 := Lib.hid hb2
    clear hb2
    go_wp2
    go_ret
    exact ⟨rfl, B2.out⟩
  rw [hsys] at hC3
  have C3 := Lib.hid hC3
  clear hC3
  by_cases h0y : y < 0
  · clear hDa hDb hC4 hsys
    go_enter Try.func6, Try.ntmps6
    go_wp2_with fail
    refine (C3.out _).mono ?_
    rintro e w1 ⟨rfl, rfl⟩
    go_wp2_with fail
    refine (answers12_c _).mono ?_
    rintro e w2 ⟨rfl, hb2⟩
    have B2 := Lib.hid hb2
    clear hb2
    go_wp2
    go_ret
    exact ⟨rfl, B2.out⟩
  rcases hsyy : sysZ y with _ | _
  · rw [hsyy] at hC4
    have C4 := Lib.hid hC4
    clear hDa hDb hC4 hsys hsyy
    go_enter Try.func6, Try.ntmps6
    go_wp2_with fail
    refine (C3.out _).mono ?_
    rintro e w1 ⟨rfl, rfl⟩
    go_wp2_with fail
    refine (C4.out _).mono ?_
    rintro e w2 ⟨rfl, rfl⟩
    go_wp2_with fail
    refine (answers12_c _).mono ?_
    rintro e w3 ⟨rfl, hb3⟩
    have B3 := Lib.hid hb3
    clear hb3
    go_wp2
    go_ret
    exact ⟨rfl, B3.out⟩
  rw [hsyy] at hC4
  have C4 := Lib.hid hC4
  clear hC4
  obtain ⟨Z, rfl, hZ⟩ := sysZ_nat hsys
  obtain ⟨Y, rfl, hY⟩ := sysZ_nat hsyy
  have kw1 : IntKind.i32.wrap ((Y : Int) - (Z : Int)) = (Y : Int) - (Z : Int) := IntWalk.i32_in _ (by omega)
  have kw2 : IntKind.i32.wrap ((Z : Int) - (Y : Int)) = (Z : Int) - (Y : Int) := IntWalk.i32_in _ (by omega)
  by_cases hn1 : (Y : Int) - (Z : Int) < 10 ∧ (Z : Int) - (Y : Int) < 10
  · have hn2 := hn1.1
    have hn3 := hn1.2
    clear hDa hDb hsys hsyy
    go_enter Try.func6, Try.ntmps6
    go_wp2_with fail
    refine (C3.out _).mono ?_
    rintro e w1 ⟨rfl, rfl⟩
    go_wp2_with fail
    refine (C4.out _).mono ?_
    rintro e w2 ⟨rfl, rfl⟩
    go_wp2_with fail
    refine (answers12_c _).mono ?_
    rintro e w3 ⟨rfl, hb3⟩
    have B3 := Lib.hid hb3
    clear hb3
    go_wp2
    go_ret
    exact ⟨rfl, B3.out⟩
  rcases hda : digD a with _ | _
  · rw [hda] at hDa
    have CA := Lib.hid hDa
    clear hDa hDb hsys hsyy hda
    by_cases hn4 : (Y : Int) - (Z : Int) < 10
    · have hn5 : ¬ (Z : Int) - (Y : Int) < 10 := by omega
      clear hn1
      go_enter Try.func6, Try.ntmps6
      go_wp2_with fail
      refine (C3.out _).mono ?_
      rintro e w1 ⟨rfl, rfl⟩
      go_wp2_with fail
      refine (C4.out _).mono ?_
      rintro e w2 ⟨rfl, rfl⟩
      go_wp2_with fail
      refine (CA.out _).mono ?_
      rintro e w3 ⟨rfl, rfl⟩
      go_wp2_with fail
      refine (answers12_c _).mono ?_
      rintro e w4 ⟨rfl, hb4⟩
      have B4 := Lib.hid hb4
      clear hb4
      go_wp2
      go_ret
      exact ⟨rfl, B4.out⟩
    · clear hn1
      go_enter Try.func6, Try.ntmps6
      go_wp2_with fail
      refine (C3.out _).mono ?_
      rintro e w1 ⟨rfl, rfl⟩
      go_wp2_with fail
      refine (C4.out _).mono ?_
      rintro e w2 ⟨rfl, rfl⟩
      go_wp2_with fail
      refine (CA.out _).mono ?_
      rintro e w3 ⟨rfl, rfl⟩
      go_wp2_with fail
      refine (answers12_c _).mono ?_
      rintro e w4 ⟨rfl, hb4⟩
      have B4 := Lib.hid hb4
      clear hb4
      go_wp2
      go_ret
      exact ⟨rfl, B4.out⟩
  rw [hda] at hDa
  have CA := Lib.hid hDa
  clear hDa
  rcases hdb : digD b with _ | _
  · rw [hdb] at hDb
    have CB := Lib.hid hDb
    clear hDb hsys hsyy hda hdb
    by_cases hn4 : (Y : Int) - (Z : Int) < 10
    · have hn5 : ¬ (Z : Int) - (Y : Int) < 10 := by omega
      clear hn1
      go_enter Try.func6, Try.ntmps6
      go_wp2_with fail
      refine (C3.out _).mono ?_
      rintro e w1 ⟨rfl, rfl⟩
      go_wp2_with fail
      refine (C4.out _).mono ?_
      rintro e w2 ⟨rfl, rfl⟩
      go_wp2_with fail
      refine (CA.out _).mono ?_
      rintro e w3 ⟨rfl, rfl⟩
      go_wp2_with fail
      refine (CB.out _).mono ?_
      rintro e w4 ⟨rfl, rfl⟩
      go_wp2_with fail
      refine (answers12_c _).mono ?_
      rintro e w5 ⟨rfl, hb5⟩
      have B5 := Lib.hid hb5
      clear hb5
      go_wp2
      go_ret
      exact ⟨rfl, B5.out⟩
    · clear hn1
      go_enter Try.func6, Try.ntmps6
      go_wp2_with fail
      refine (C3.out _).mono ?_
      rintro e w1 ⟨rfl, rfl⟩
      go_wp2_with fail
      refine (C4.out _).mono ?_
      rintro e w2 ⟨rfl, rfl⟩
      go_wp2_with fail
      refine (CA.out _).mono ?_
      rintro e w3 ⟨rfl, rfl⟩
      go_wp2_with fail
      refine (CB.out _).mono ?_
      rintro e w4 ⟨rfl, rfl⟩
      go_wp2_with fail
      refine (answers12_c _).mono ?_
      rintro e w5 ⟨rfl, hb5⟩
      have B5 := Lib.hid hb5
      clear hb5
      go_wp2
      go_ret
      exact ⟨rfl, B5.out⟩
  rw [hdb] at hDb
  have CB := Lib.hid hDb
  clear hDb
  by_cases hbig : 100 < a.size + b.size
  · have hbi : (100 : Int) < (a.size : Int) + (b.size : Int) := by omega
    clear hsys hsyy hda hdb
    by_cases hn4 : (Y : Int) - (Z : Int) < 10
    · have hn5 : ¬ (Z : Int) - (Y : Int) < 10 := by omega
      clear hn1
      go_enter Try.func6, Try.ntmps6
      go_wp2_with fail
      refine (C3.out _).mono ?_
      rintro e w1 ⟨rfl, rfl⟩
      go_wp2_with fail
      refine (C4.out _).mono ?_
      rintro e w2 ⟨rfl, rfl⟩
      go_wp2_with fail
      refine (CA.out _).mono ?_
      rintro e w3 ⟨rfl, rfl⟩
      go_wp2_with fail
      refine (CB.out _).mono ?_
      rintro e w4 ⟨rfl, rfl⟩
      go_wp2_with fail
      refine (answers12_c _).mono ?_
      rintro e w5 ⟨rfl, hb5⟩
      have B5 := Lib.hid hb5
      clear hb5
      go_wp2
      go_ret
      exact ⟨rfl, B5.out⟩
    · clear hn1
      go_enter Try.func6, Try.ntmps6
      go_wp2_with fail
      refine (C3.out _).mono ?_
      rintro e w1 ⟨rfl, rfl⟩
      go_wp2_with fail
      refine (C4.out _).mono ?_
      rintro e w2 ⟨rfl, rfl⟩
      go_wp2_with fail
      refine (CA.out _).mono ?_
      rintro e w3 ⟨rfl, rfl⟩
      go_wp2_with fail
      refine (CB.out _).mono ?_
      rintro e w4 ⟨rfl, rfl⟩
      go_wp2_with fail
      refine (answers12_c _).mono ?_
      rintro e w5 ⟨rfl, hb5⟩
      have B5 := Lib.hid hb5
      clear hb5
      go_wp2
      go_ret
      exact ⟨rfl, B5.out⟩
  have hbi : ¬ (100 : Int) < (a.size : Int) + (b.size : Int) := by omega
  have ha := digD_true hda
  have hb := digD_true hdb
  clear hda hdb
  have hPa := fun W => refPut_c Z a W hsys (by omega) ha.2
  have hPb := fun W => refPut_c Y b W hsyy (by omega) hb.2
  have hpa := putS_size Z (bts a)
  have hpb := putS_size Y (bts b)
  rw [bts_length] at hpa hpb
  have hba := bts_put hsys ha.2
  have hbb := bts_put hsyy hb.2
  have hjs : bts (putS Z (bts a) ++ putS Y (bts b)) = encs (hi Z (bts a)) ++ encs (hi Y (bts b)) := by rw [bts_append, hba, hbb]
  have hsz : (putS Z (bts a) ++ putS Y (bts b)).size = (putS Z (bts a)).size + (putS Y (bts b)).size := ByteArray.size_append
  have hmx := mixed hsys hsyy (by omega) ha.1 ha.2 hb.1 hb.2
  rw [← hjs] at hmx
  have hG1 := fun W => digitGet_c Z (putS Z (bts a) ++ putS Y (bts b)) W hsys (by omega)
  have hG2 := fun W => digitGet_c Y (putS Z (bts a) ++ putS Y (bts b)) W hsyy (by omega)
  have hR := fun W => digitRun_c Z (putS Z (bts a) ++ putS Y (bts b)) W hsys (by omega)
  rw [(getS_no hmx.1).1, (getS_no hmx.1).2] at hG1
  rw [(getS_no hmx.2.1).1, (getS_no hmx.2.1).2] at hG2
  rw [hmx.2.2, ← hba, bts_length] at hR
  clear hmx hjs hba hbb
  generalize putS Z (bts a) = T at *
  generalize putS Y (bts b) = U at *
  have CPA := Lib.hid hPa
  have CPB := Lib.hid hPb
  have CG1 := Lib.hid hG1
  have CG2 := Lib.hid hG2
  have CR := Lib.hid hR
  clear hPa hPb hG1 hG2 hR hsys hsyy ha hb
  by_cases hn4 : (Y : Int) - (Z : Int) < 10
  · have hn5 : ¬ (Z : Int) - (Y : Int) < 10 := by omega
    clear hn1
    go_enter Try.func6, Try.ntmps6
    go_wp2_with fail
    refine (C3.out _).mono ?_
    rintro e w1 ⟨rfl, rfl⟩
    go_wp2_with fail
    refine (C4.out _).mono ?_
    rintro e w2 ⟨rfl, rfl⟩
    go_wp2_with fail
    refine (CA.out _).mono ?_
    rintro e w3 ⟨rfl, rfl⟩
    go_wp2_with fail
    refine (CB.out _).mono ?_
    rintro e w4 ⟨rfl, rfl⟩
    go_wp2_with fail
    refine (CPA.out _).mono ?_
    rintro e w5 ⟨rfl, hb5⟩
    have B5 := Lib.hid hb5
    clear hb5
    go_wp2_with fail
    refine (CPB.out _).mono ?_
    rintro e w6 ⟨rfl, hb6⟩
    have B6 := Lib.hid (B5.out.trans (hb6.mono B5.out.size))
    clear hb6
    go_wp2_with fail
    refine (CG1.out _).mono ?_
    rintro e w7 ⟨rfl, hb7⟩
    have B7 := Lib.hid (B6.out.trans (hb7.mono B6.out.size))
    clear hb7
    go_wp2_with fail
    refine (CG2.out _).mono ?_
    rintro e w8 ⟨rfl, hb8⟩
    have B8 := Lib.hid (B7.out.trans (hb8.mono B7.out.size))
    clear hb8
    go_wp2_with fail
    refine (answers12_c _).mono ?_
    rintro e w9 ⟨rfl, hb9⟩
    have B9 := Lib.hid (B8.out.trans (hb9.mono B8.out.size))
    clear hb9
    go_wp2_with fail
    refine (CR.out _).mono ?_
    rintro e w10 ⟨rfl, hb10⟩
    have B10 := Lib.hid (B9.out.trans (hb10.mono B9.out.size))
    clear hb10
    go_wp2_with fail
    refine (CPA.out _).mono ?_
    rintro e w11 ⟨rfl, hb11⟩
    have B11 := Lib.hid (B10.out.trans (hb11.mono B10.out.size))
    clear hb11
    go_wp2
    go_ret
    exact ⟨by simp, B11.out⟩
  · clear hn1
    go_enter Try.func6, Try.ntmps6
    go_wp2_with fail
    refine (C3.out _).mono ?_
    rintro e w1 ⟨rfl, rfl⟩
    go_wp2_with fail
    refine (C4.out _).mono ?_
    rintro e w2 ⟨rfl, rfl⟩
    go_wp2_with fail
    refine (CA.out _).mono ?_
    rintro e w3 ⟨rfl, rfl⟩
    go_wp2_with fail
    refine (CB.out _).mono ?_
    rintro e w4 ⟨rfl, rfl⟩
    go_wp2_with fail
    refine (CPA.out _).mono ?_
    rintro e w5 ⟨rfl, hb5⟩
    have B5 := Lib.hid hb5
    clear hb5
    go_wp2_with fail
    refine (CPB.out _).mono ?_
    rintro e w6 ⟨rfl, hb6⟩
    have B6 := Lib.hid (B5.out.trans (hb6.mono B5.out.size))
    clear hb6
    go_wp2_with fail
    refine (CG1.out _).mono ?_
    rintro e w7 ⟨rfl, hb7⟩
    have B7 := Lib.hid (B6.out.trans (hb7.mono B6.out.size))
    clear hb7
    go_wp2_with fail
    refine (CG2.out _).mono ?_
    rintro e w8 ⟨rfl, hb8⟩
    have B8 := Lib.hid (B7.out.trans (hb8.mono B7.out.size))
    clear hb8
    go_wp2_with fail
    refine (answers12_c _).mono ?_
    rintro e w9 ⟨rfl, hb9⟩
    have B9 := Lib.hid (B8.out.trans (hb9.mono B8.out.size))
    clear hb9
    go_wp2_with fail
    refine (CR.out _).mono ?_
    rintro e w10 ⟨rfl, hb10⟩
    have B10 := Lib.hid (B9.out.trans (hb10.mono B9.out.size))
    clear hb10
    go_wp2_with fail
    refine (CPA.out _).mono ?_
    rintro e w11 ⟨rfl, hb11⟩
    have B11 := Lib.hid (B10.out.trans (hb11.mono B10.out.size))
    clear hb11
    go_wp2
    go_ret
    exact ⟨by simp, B11.out⟩
end Go.Proofs.Ytfppieafdkdheaa
