/-
  PlaceFits: the walk.
-/
import Derived.Test.YtonanpnacoegcaaDoorU8
set_option maxRecDepth 100000
namespace Go.Proofs.YtonanpnacoegcaaDoor
open Go.RowKit
attribute [local go_sem] dec_field0 dec_field1 dec_field2 in
set_option maxHeartbeats 16000000 in
set_option maxRecDepth 100000 in
theorem walk_placeFits (m : Int) (nd : Bool) (sd : ByteArray) (ed : Int) (a : Int) (w : World) (hm : -9223372036854775808 ≤ m ∧ m ≤ 9223372036854775807) (hd : sd.size ≤ maxLen) (ha : -9223372036854775808 ≤ a ∧ a ≤ 9223372036854775807) (hP : Pw w) :
    Calls Tryd.prog 4 #[.int .i64 m, .agg #[.bool nd, .string sd, .int .i64 ed], .int .i64 a] w fun e w' => e = .returned (.bool true) ∧ Below w.heap.size w w' := by
  have HK := Lib.hid (kept_one w (.bool nd) (.string sd) (.int .i64 ed) 23 hP)
  clear hP
  have HG := Lib.hid (fun w hP => good08_c nd sd ed a w hd hP)
  rcases hg : g8 sd ed a with _ | _
  · rw [hg] at HG
    clear hg
    go_enter Tryd.func4, Tryd.ntmps4
    go_wp2_with fail
    refine (HG.out _ HK.out.1).mono ?_
    rintro r w1 ⟨rfl, hb⟩
    have hk := HK.out.keep hb
    replace HK := Lib.hid hk
    clear hk hb
    obtain ⟨⟨⟨c00, c01, c02⟩, -⟩, -⟩ := Sd.of HK.out
    go_wp2_with fail
    refine (answers08_c _ HK.out.1).mono ?_
    rintro r w2 ⟨rfl, hb⟩
    clear c00 c01 c02
    have hk := HK.out.keep hb
    replace HK := Lib.hid hk
    clear hk hb
    obtain ⟨⟨⟨c00, c01, c02⟩, -⟩, -⟩ := Sd.of HK.out
    go_wp2
    go_ret
    exact ⟨rfl, HK.out.2.1⟩
  · rw [hg] at HG
    obtain ⟨hf, ha1, ha2, he1, he2⟩ := g8_true hg
    obtain ⟨X, hu, hl⟩ := DU.of_fine (k := -400) hf (by omega) (by omega) (by omega)
    have HU := Lib.hid hu
    clear hg hf hu
    by_cases hm1 : m < 0
    · go_enter Tryd.func4, Tryd.ntmps4
      go_wp2_with fail
      refine (HG.out _ HK.out.1).mono ?_
      rintro r w1 ⟨rfl, hb⟩
      have hk := HK.out.keep hb
      replace HK := Lib.hid hk
      clear hk hb
      obtain ⟨⟨⟨c00, c01, c02⟩, -⟩, -⟩ := Sd.of HK.out
      go_wp2_with fail
      refine (answers08_c _ HK.out.1).mono ?_
      rintro r w2 ⟨rfl, hb⟩
      clear c00 c01 c02
      have hk := HK.out.keep hb
      replace HK := Lib.hid hk
      clear hk hb
      obtain ⟨⟨⟨c00, c01, c02⟩, -⟩, -⟩ := Sd.of HK.out
      go_wp2
      go_ret
      exact ⟨rfl, HK.out.2.1⟩
    · by_cases hm2 : 7 < m
      · go_enter Tryd.func4, Tryd.ntmps4
        go_wp2_with fail
        refine (HG.out _ HK.out.1).mono ?_
        rintro r w1 ⟨rfl, hb⟩
        have hk := HK.out.keep hb
        replace HK := Lib.hid hk
        clear hk hb
        obtain ⟨⟨⟨c00, c01, c02⟩, -⟩, -⟩ := Sd.of HK.out
        go_wp2_with fail
        refine (answers08_c _ HK.out.1).mono ?_
        rintro r w2 ⟨rfl, hb⟩
        clear c00 c01 c02
        have hk := HK.out.keep hb
        replace HK := Lib.hid hk
        clear hk hb
        obtain ⟨⟨⟨c00, c01, c02⟩, -⟩, -⟩ := Sd.of HK.out
        go_wp2
        go_ret
        exact ⟨rfl, HK.out.2.1⟩
      · have HWP := Lib.hid (show 0 < (10 ^ (a - -400).toNat) from pow_pos10 _)
        by_cases hx : X % (10 ^ (a - -400).toNat) = 0
        · have HR := Lib.hid (fun (w : World) (hP : Pw w) => placeRound_u (m := m) (p := a) (n := nd) (w := w) (v := .tuple #[.agg #[.bool nd, .string (nstr X), .int .i64 (nexp X (-400))], .int .i64 0]) (isWay_true (by omega) (by omega)) HU.out (by omega) (by omega) rfl (rndV_mult hx) hP)
          have HF := Lib.hid (fun (w : World) (hP : Pw w) => placeFits_u (p := a) (n := nd) (v := true) (w := w) HU.out (by omega) rfl (decide_eq_true hx) hP)
          have HN := Lib.hid (fun (w : World) (hP : Pw w) => ref5Norm_u (n := nd) (w := w) HU.out ⟨rfl, rfl⟩ hP)
          by_cases h0 : X = 0
          · have hz : ((nstr X).toList == [48]) = true := by rw [nstr_is0]; exact decide_eq_true h0
            clear h0 hx
            go_enter Tryd.func4, Tryd.ntmps4
            go_wp2_with fail
            refine (HG.out _ HK.out.1).mono ?_
            rintro r w1 ⟨rfl, hb⟩
            have hk := HK.out.keep hb
            replace HK := Lib.hid hk
            clear hk hb
            obtain ⟨⟨⟨c00, c01, c02⟩, -⟩, -⟩ := Sd.of HK.out
            go_wp2_with fail
            refine (HR.out _ HK.out.1).mono ?_
            rintro r w2 ⟨rfl, hb⟩
            clear c00 c01 c02
            have hk := HK.out.keep hb
            replace HK := Lib.hid hk
            clear hk hb
            replace HK := Lib.hid (show Kept3 w [(w.heap.size, .bool nd, .string sd, .int .i64 (ed)), (w2.heap.size, .bool nd, .string (nstr X), .int .i64 (nexp X (-400)))] (w2.alloc (.cells #[.bool nd, .string (nstr X), .int .i64 (nexp X (-400))] 23)) from HK.out.grow _ _ _ _)
            obtain ⟨⟨⟨c00, c01, c02⟩, ⟨c10, c11, c12⟩, -⟩, -⟩ := Sd.of HK.out
            go_wp2_with fail
            refine (HF.out _ HK.out.1).mono ?_
            rintro r w3 ⟨rfl, hb⟩
            clear c00 c01 c02 c10 c11 c12
            have hk := HK.out.keep hb
            replace HK := Lib.hid hk
            clear hk hb
            obtain ⟨⟨⟨c00, c01, c02⟩, ⟨c10, c11, c12⟩, -⟩, -⟩ := Sd.of HK.out
            go_wp2_with fail
            refine (HN.out _ HK.out.1).mono ?_
            rintro r w4 ⟨rfl, hb⟩
            clear c00 c01 c02 c10 c11 c12
            have hk := HK.out.keep hb
            replace HK := Lib.hid hk
            clear hk hb
            replace HK := Lib.hid (show Kept3 w [(w.heap.size, .bool nd, .string sd, .int .i64 (ed)), (w2.heap.size, .bool nd, .string (nstr X), .int .i64 (nexp X (-400))), (w4.heap.size, .bool nd, .string (nstr X), .int .i64 (nexp X (-400)))] (w4.alloc (.cells #[.bool nd, .string (nstr X), .int .i64 (nexp X (-400))] 23)) from HK.out.grow _ _ _ _)
            obtain ⟨⟨⟨c00, c01, c02⟩, ⟨c10, c11, c12⟩, ⟨c20, c21, c22⟩, -⟩, -⟩ := Sd.of HK.out
            go_wp2_with fail
            refine (answers08_c _ HK.out.1).mono ?_
            rintro r w5 ⟨rfl, hb⟩
            clear c00 c01 c02 c10 c11 c12 c20 c21 c22
            have hk := HK.out.keep hb
            replace HK := Lib.hid hk
            clear hk hb
            obtain ⟨⟨⟨c00, c01, c02⟩, ⟨c10, c11, c12⟩, ⟨c20, c21, c22⟩, -⟩, -⟩ := Sd.of HK.out
            go_wp2
            go_ret
            exact ⟨rfl, HK.out.2.1⟩
          · have hz : ((nstr X).toList == [48]) = false := by rw [nstr_is0]; exact decide_eq_false h0
            have hxe := (fits_exp h0 (by omega)).1 hx
            clear h0 hx
            go_enter Tryd.func4, Tryd.ntmps4
            go_wp2_with fail
            refine (HG.out _ HK.out.1).mono ?_
            rintro r w1 ⟨rfl, hb⟩
            have hk := HK.out.keep hb
            replace HK := Lib.hid hk
            clear hk hb
            obtain ⟨⟨⟨c00, c01, c02⟩, -⟩, -⟩ := Sd.of HK.out
            go_wp2_with fail
            refine (HR.out _ HK.out.1).mono ?_
            rintro r w2 ⟨rfl, hb⟩
            clear c00 c01 c02
            have hk := HK.out.keep hb
            replace HK := Lib.hid hk
            clear hk hb
            replace HK := Lib.hid (show Kept3 w [(w.heap.size, .bool nd, .string sd, .int .i64 (ed)), (w2.heap.size, .bool nd, .string (nstr X), .int .i64 (nexp X (-400)))] (w2.alloc (.cells #[.bool nd, .string (nstr X), .int .i64 (nexp X (-400))] 23)) from HK.out.grow _ _ _ _)
            obtain ⟨⟨⟨c00, c01, c02⟩, ⟨c10, c11, c12⟩, -⟩, -⟩ := Sd.of HK.out
            go_wp2_with fail
            refine (HF.out _ HK.out.1).mono ?_
            rintro r w3 ⟨rfl, hb⟩
            clear c00 c01 c02 c10 c11 c12
            have hk := HK.out.keep hb
            replace HK := Lib.hid hk
            clear hk hb
            obtain ⟨⟨⟨c00, c01, c02⟩, ⟨c10, c11, c12⟩, -⟩, -⟩ := Sd.of HK.out
            go_wp2_with fail
            refine (HN.out _ HK.out.1).mono ?_
            rintro r w4 ⟨rfl, hb⟩
            clear c00 c01 c02 c10 c11 c12
            have hk := HK.out.keep hb
            replace HK := Lib.hid hk
            clear hk hb
            replace HK := Lib.hid (show Kept3 w [(w.heap.size, .bool nd, .string sd, .int .i64 (ed)), (w2.heap.size, .bool nd, .string (nstr X), .int .i64 (nexp X (-400))), (w4.heap.size, .bool nd, .string (nstr X), .int .i64 (nexp X (-400)))] (w4.alloc (.cells #[.bool nd, .string (nstr X), .int .i64 (nexp X (-400))] 23)) from HK.out.grow _ _ _ _)
            obtain ⟨⟨⟨c00, c01, c02⟩, ⟨c10, c11, c12⟩, ⟨c20, c21, c22⟩, -⟩, -⟩ := Sd.of HK.out
            go_wp2_with fail
            refine (answers08_c _ HK.out.1).mono ?_
            rintro r w5 ⟨rfl, hb⟩
            clear c00 c01 c02 c10 c11 c12 c20 c21 c22
            have hk := HK.out.keep hb
            replace HK := Lib.hid hk
            clear hk hb
            obtain ⟨⟨⟨c00, c01, c02⟩, ⟨c10, c11, c12⟩, ⟨c20, c21, c22⟩, -⟩, -⟩ := Sd.of HK.out
            go_wp2
            go_ret
            exact ⟨rfl, HK.out.2.1⟩
        · by_cases h7 : m = 7
          · subst h7
            have h0 : X ≠ 0 := by rintro rfl; exact hx (Nat.zero_mod _)
            have hz : ((nstr X).toList == [48]) = false := by rw [nstr_is0]; exact decide_eq_false h0
            have hxe : ¬ (a ≤ nexp X (-400)) := fun hh => hx ((fits_exp h0 (by omega)).2 hh)
            have HR := Lib.hid (fun (w : World) (hP : Pw w) => placeRound_u (m := 7) (p := a) (n := nd) (w := w) (v := .tuple #[.agg #[.bool false, .string ⟨#[]⟩, .int .i64 0], .int .i64 11]) (isWay_true (by omega) (by omega)) HU.out (by omega) (by omega) rfl (rndV_no hx) hP)
            have HF := Lib.hid (fun (w : World) (hP : Pw w) => placeFits_u (p := a) (n := nd) (v := false) (w := w) HU.out (by omega) rfl (decide_eq_false hx) hP)
            have HN := Lib.hid (fun (w : World) (hP : Pw w) => ref5Norm_u (n := nd) (w := w) HU.out ⟨rfl, rfl⟩ hP)
            clear h0 hx
            go_enter Tryd.func4, Tryd.ntmps4
            go_wp2_with fail
            refine (HG.out _ HK.out.1).mono ?_
            rintro r w1 ⟨rfl, hb⟩
            have hk := HK.out.keep hb
            replace HK := Lib.hid hk
            clear hk hb
            obtain ⟨⟨⟨c00, c01, c02⟩, -⟩, -⟩ := Sd.of HK.out
            go_wp2_with fail
            refine (HR.out _ HK.out.1).mono ?_
            rintro r w2 ⟨rfl, hb⟩
            clear c00 c01 c02
            have hk := HK.out.keep hb
            replace HK := Lib.hid hk
            clear hk hb
            replace HK := Lib.hid (show Kept3 w [(w.heap.size, .bool nd, .string sd, .int .i64 (ed)), (w2.heap.size, .bool false, .string ⟨#[]⟩, .int .i64 (0))] (w2.alloc (.cells #[.bool false, .string ⟨#[]⟩, .int .i64 (0)] 23)) from HK.out.grow _ _ _ _)
            obtain ⟨⟨⟨c00, c01, c02⟩, ⟨c10, c11, c12⟩, -⟩, -⟩ := Sd.of HK.out
            go_wp2_with fail
            refine (HF.out _ HK.out.1).mono ?_
            rintro r w3 ⟨rfl, hb⟩
            clear c00 c01 c02 c10 c11 c12
            have hk := HK.out.keep hb
            replace HK := Lib.hid hk
            clear hk hb
            obtain ⟨⟨⟨c00, c01, c02⟩, ⟨c10, c11, c12⟩, -⟩, -⟩ := Sd.of HK.out
            go_wp2_with fail
            refine (HN.out _ HK.out.1).mono ?_
            rintro r w4 ⟨rfl, hb⟩
            clear c00 c01 c02 c10 c11 c12
            have hk := HK.out.keep hb
            replace HK := Lib.hid hk
            clear hk hb
            replace HK := Lib.hid (show Kept3 w [(w.heap.size, .bool nd, .string sd, .int .i64 (ed)), (w2.heap.size, .bool false, .string ⟨#[]⟩, .int .i64 (0)), (w4.heap.size, .bool nd, .string (nstr X), .int .i64 (nexp X (-400)))] (w4.alloc (.cells #[.bool nd, .string (nstr X), .int .i64 (nexp X (-400))] 23)) from HK.out.grow _ _ _ _)
            obtain ⟨⟨⟨c00, c01, c02⟩, ⟨c10, c11, c12⟩, ⟨c20, c21, c22⟩, -⟩, -⟩ := Sd.of HK.out
            go_wp2_with fail
            refine (answers08_c _ HK.out.1).mono ?_
            rintro r w5 ⟨rfl, hb⟩
            clear c00 c01 c02 c10 c11 c12 c20 c21 c22
            have hk := HK.out.keep hb
            replace HK := Lib.hid hk
            clear hk hb
            obtain ⟨⟨⟨c00, c01, c02⟩, ⟨c10, c11, c12⟩, ⟨c20, c21, c22⟩, -⟩, -⟩ := Sd.of HK.out
            go_wp2
            go_ret
            exact ⟨rfl, HK.out.2.1⟩
          · have h0 : X ≠ 0 := by rintro rfl; exact hx (Nat.zero_mod _)
            have hz : ((nstr X).toList == [48]) = false := by rw [nstr_is0]; exact decide_eq_false h0
            have hxe : ¬ (a ≤ nexp X (-400)) := fun hh => hx ((fits_exp h0 (by omega)).2 hh)
            obtain ⟨R, hR⟩ : ∃ R, rndN m nd X (10 ^ (a - -400).toNat) = R := ⟨_, rfl⟩
            have HR := Lib.hid (fun (w : World) (hP : Pw w) => placeRound_u (m := m) (p := a) (n := nd) (w := w) (v := .tuple #[.agg #[.bool nd, .string (nstr R), .int .i64 (nexp R (-400))], .int .i64 0]) (isWay_true (by omega) (by omega)) HU.out (by omega) (by omega) rfl (by rw [rndV_of h7, hR]) hP)
            have HF := Lib.hid (fun (w : World) (hP : Pw w) => placeFits_u (p := a) (n := nd) (v := false) (w := w) HU.out (by omega) rfl (decide_eq_false hx) hP)
            have HN := Lib.hid (fun (w : World) (hP : Pw w) => ref5Norm_u (n := nd) (w := w) HU.out ⟨rfl, rfl⟩ hP)
            have hRm := rndN_mod m nd X (10 ^ (a - -400).toNat)
            rw [hR] at hRm
            have hRl := rnd_len m nd (L := 900) (X := X) (by omega) (Nat.le_trans (pow_len (a - -400).toNat) (by omega)) HWP.out
            rw [hR] at hRl
            have HUR := Lib.hid (DU.z (k := -400) (X := R) (by omega) (by omega) (by omega))
            have HF2 := Lib.hid (fun (w : World) (hP : Pw w) => placeFits_u (p := a) (n := nd) (v := true) (w := w) HUR.out (by omega) rfl (decide_eq_true hRm) hP)
            have hne : R ≠ X := by rintro rfl; exact hx hRm
            obtain ⟨C, hC⟩ : ∃ C, cmpZ (sv nd R) (sv nd X) = C := ⟨_, rfl⟩
            have HC := Lib.hid (fun (w : World) (hP : Pw w) => refCmp_d (w := w) (HUR.out.dv nd) (HU.out.dv nd) hC hP)
            have hC0 : (C != 0) = true := by have := cmpZ_ne (sv_ne (n := nd) hne); rw [hC] at this; simpa using this
            have h7b : (m == 7) = false := by simpa using h7
            clear h0 hx hR hRm hRl hne hC h7
            go_enter Tryd.func4, Tryd.ntmps4
            go_wp2_with fail
            refine (HG.out _ HK.out.1).mono ?_
            rintro r w1 ⟨rfl, hb⟩
            have hk := HK.out.keep hb
            replace HK := Lib.hid hk
            clear hk hb
            obtain ⟨⟨⟨c00, c01, c02⟩, -⟩, -⟩ := Sd.of HK.out
            go_wp2_with fail
            refine (HR.out _ HK.out.1).mono ?_
            rintro r w2 ⟨rfl, hb⟩
            clear c00 c01 c02
            have hk := HK.out.keep hb
            replace HK := Lib.hid hk
            clear hk hb
            replace HK := Lib.hid (show Kept3 w [(w.heap.size, .bool nd, .string sd, .int .i64 (ed)), (w2.heap.size, .bool nd, .string (nstr R), .int .i64 (nexp R (-400)))] (w2.alloc (.cells #[.bool nd, .string (nstr R), .int .i64 (nexp R (-400))] 23)) from HK.out.grow _ _ _ _)
            obtain ⟨⟨⟨c00, c01, c02⟩, ⟨c10, c11, c12⟩, -⟩, -⟩ := Sd.of HK.out
            go_wp2_with fail
            refine (HF.out _ HK.out.1).mono ?_
            rintro r w3 ⟨rfl, hb⟩
            clear c00 c01 c02 c10 c11 c12
            have hk := HK.out.keep hb
            replace HK := Lib.hid hk
            clear hk hb
            obtain ⟨⟨⟨c00, c01, c02⟩, ⟨c10, c11, c12⟩, -⟩, -⟩ := Sd.of HK.out
            go_wp2_with fail
            refine (HN.out _ HK.out.1).mono ?_
            rintro r w4 ⟨rfl, hb⟩
            clear c00 c01 c02 c10 c11 c12
            have hk := HK.out.keep hb
            replace HK := Lib.hid hk
            clear hk hb
            replace HK := Lib.hid (show Kept3 w [(w.heap.size, .bool nd, .string sd, .int .i64 (ed)), (w2.heap.size, .bool nd, .string (nstr R), .int .i64 (nexp R (-400))), (w4.heap.size, .bool nd, .string (nstr X), .int .i64 (nexp X (-400)))] (w4.alloc (.cells #[.bool nd, .string (nstr X), .int .i64 (nexp X (-400))] 23)) from HK.out.grow _ _ _ _)
            obtain ⟨⟨⟨c00, c01, c02⟩, ⟨c10, c11, c12⟩, ⟨c20, c21, c22⟩, -⟩, -⟩ := Sd.of HK.out
            go_wp2_with fail
            refine (answers08_c _ HK.out.1).mono ?_
            rintro r w5 ⟨rfl, hb⟩
            clear c00 c01 c02 c10 c11 c12 c20 c21 c22
            have hk := HK.out.keep hb
            replace HK := Lib.hid hk
            clear hk hb
            obtain ⟨⟨⟨c00, c01, c02⟩, ⟨c10, c11, c12⟩, ⟨c20, c21, c22⟩, -⟩, -⟩ := Sd.of HK.out
            go_wp2_with fail
            refine (HF2.out _ HK.out.1).mono ?_
            rintro r w6 ⟨rfl, hb⟩
            clear c00 c01 c02 c10 c11 c12 c20 c21 c22
            have hk := HK.out.keep hb
            replace HK := Lib.hid hk
            clear hk hb
            obtain ⟨⟨⟨c00, c01, c02⟩, ⟨c10, c11, c12⟩, ⟨c20, c21, c22⟩, -⟩, -⟩ := Sd.of HK.out
            go_wp2_with fail
            refine (HC.out _ HK.out.1).mono ?_
            rintro r w7 ⟨rfl, hb⟩
            clear c00 c01 c02 c10 c11 c12 c20 c21 c22
            have hk := HK.out.keep hb
            replace HK := Lib.hid hk
            clear hk hb
            obtain ⟨⟨⟨c00, c01, c02⟩, ⟨c10, c11, c12⟩, ⟨c20, c21, c22⟩, -⟩, -⟩ := Sd.of HK.out
            go_wp2
            go_ret
            exact ⟨rfl, HK.out.2.1⟩
end Go.Proofs.YtonanpnacoegcaaDoor
