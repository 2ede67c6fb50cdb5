/-
  DecThree: the walk.
-/
import Derived.Test.YtijalgngcbifgaaDoorDec8
namespace Go.Proofs.YtijalgngcbifgaaDoor
open Go.RowKit
set_option maxHeartbeats 4000000 in
set_option maxRecDepth 100000 in
theorem walk_decThree (n0 : Bool) (s0 : ByteArray) (e0 : Int) (n1 : Bool) (s1 : ByteArray) (e1 : Int) (n2 : Bool) (s2 : ByteArray) (e2 : Int) (w : World) (h0 : s0.size ≤ maxLen) (h1 : s1.size ≤ maxLen) (h2 : s2.size ≤ maxLen) (hP : Pw w) :
    Calls Tryd.prog 8 #[.agg #[.bool n0, .string s0, .int .i64 e0], .agg #[.bool n1, .string s1, .int .i64 e1], .agg #[.bool n2, .string s2, .int .i64 e2]] w fun e w' => e = .returned (.bool true) ∧ Below w.heap.size w w' := by
  have HK := Lib.hid (kept_three w (.bool n0) (.string s0) (.int .i64 e0) (.bool n1) (.string s1) (.int .i64 e1) (.bool n2) (.string s2) (.int .i64 e2) 23 hP)
  clear hP
  have HG0 := Lib.hid (fun w hP => ref5Good_c n0 s0 e0 w h0 hP)
  have HG1 := Lib.hid (fun w hP => ref5Good_c n1 s1 e1 w h1 hP)
  have HG2 := Lib.hid (fun w hP => ref5Good_c n2 s2 e2 w h2 hP)
  rcases hg0 : goodB s0 e0 with _ | _
  · rw [hg0] at HG0
    have HN0 := Lib.hid hg0
    clear hg0
    go_enter Tryd.func8, Tryd.ntmps8
    go_wp2_with fail
    refine (HG0.out _ HK.out.1).mono ?_
    rintro r w1 ⟨rfl, hb⟩
    have hk := HK.out.keep hb
    replace HK := Lib.hid hk
    clear hk hb
    obtain ⟨⟨⟨c00, c01, c02⟩, ⟨c10, c11, c12⟩, ⟨c20, c21, c22⟩, -⟩, -⟩ := Sd.of HK.out
    go_wp2_with fail
    refine (answers05_c _ HK.out.1).mono ?_
    rintro r w2 ⟨rfl, hb⟩
    clear c00 c01 c02 c10 c11 c12 c20 c21 c22
    have hk := HK.out.keep hb
    replace HK := Lib.hid hk
    clear hk hb
    obtain ⟨⟨⟨c00, c01, c02⟩, ⟨c10, c11, c12⟩, ⟨c20, c21, c22⟩, -⟩, -⟩ := Sd.of HK.out
    go_wp2
    go_ret
    exact ⟨rfl, HK.out.2.1⟩
  · rw [hg0] at HG0
    have HD0 := Lib.hid (DA.of_good hg0)
    have HY0 := Lib.hid hg0
    clear hg0
    generalize dval (bdigs s0) = N0 at *
    rcases hg1 : goodB s1 e1 with _ | _
    · rw [hg1] at HG1
      have HN1 := Lib.hid hg1
      clear hg1
      go_enter Tryd.func8, Tryd.ntmps8
      go_wp2_with fail
      refine (HG0.out _ HK.out.1).mono ?_
      rintro r w1 ⟨rfl, hb⟩
      have hk := HK.out.keep hb
      replace HK := Lib.hid hk
      clear hk hb
      obtain ⟨⟨⟨c00, c01, c02⟩, ⟨c10, c11, c12⟩, ⟨c20, c21, c22⟩, -⟩, -⟩ := Sd.of HK.out
      go_wp2_with fail
      refine (HG1.out _ HK.out.1).mono ?_
      rintro r w2 ⟨rfl, hb⟩
      clear c00 c01 c02 c10 c11 c12 c20 c21 c22
      have hk := HK.out.keep hb
      replace HK := Lib.hid hk
      clear hk hb
      obtain ⟨⟨⟨c00, c01, c02⟩, ⟨c10, c11, c12⟩, ⟨c20, c21, c22⟩, -⟩, -⟩ := Sd.of HK.out
      go_wp2_with fail
      refine (answers05_c _ HK.out.1).mono ?_
      rintro r w3 ⟨rfl, hb⟩
      clear c00 c01 c02 c10 c11 c12 c20 c21 c22
      have hk := HK.out.keep hb
      replace HK := Lib.hid hk
      clear hk hb
      obtain ⟨⟨⟨c00, c01, c02⟩, ⟨c10, c11, c12⟩, ⟨c20, c21, c22⟩, -⟩, -⟩ := Sd.of HK.out
      go_wp2
      go_ret
      exact ⟨rfl, HK.out.2.1⟩
    · rw [hg1] at HG1
      have HD1 := Lib.hid (DA.of_good hg1)
      have HY1 := Lib.hid hg1
      clear hg1
      generalize dval (bdigs s1) = N1 at *
      rcases hg2 : goodB s2 e2 with _ | _
      · rw [hg2] at HG2
        have HN2 := Lib.hid hg2
        clear hg2
        go_enter Tryd.func8, Tryd.ntmps8
        go_wp2_with fail
        refine (HG0.out _ HK.out.1).mono ?_
        rintro r w1 ⟨rfl, hb⟩
        have hk := HK.out.keep hb
        replace HK := Lib.hid hk
        clear hk hb
        obtain ⟨⟨⟨c00, c01, c02⟩, ⟨c10, c11, c12⟩, ⟨c20, c21, c22⟩, -⟩, -⟩ := Sd.of HK.out
        go_wp2_with fail
        refine (HG1.out _ HK.out.1).mono ?_
        rintro r w2 ⟨rfl, hb⟩
        clear c00 c01 c02 c10 c11 c12 c20 c21 c22
        have hk := HK.out.keep hb
        replace HK := Lib.hid hk
        clear hk hb
        obtain ⟨⟨⟨c00, c01, c02⟩, ⟨c10, c11, c12⟩, ⟨c20, c21, c22⟩, -⟩, -⟩ := Sd.of HK.out
        go_wp2_with fail
        refine (HG2.out _ HK.out.1).mono ?_
        rintro r w3 ⟨rfl, hb⟩
        clear c00 c01 c02 c10 c11 c12 c20 c21 c22
        have hk := HK.out.keep hb
        replace HK := Lib.hid hk
        clear hk hb
        obtain ⟨⟨⟨c00, c01, c02⟩, ⟨c10, c11, c12⟩, ⟨c20, c21, c22⟩, -⟩, -⟩ := Sd.of HK.out
        go_wp2_with fail
        refine (answers05_c _ HK.out.1).mono ?_
        rintro r w4 ⟨rfl, hb⟩
        clear c00 c01 c02 c10 c11 c12 c20 c21 c22
        have hk := HK.out.keep hb
        replace HK := Lib.hid hk
        clear hk hb
        obtain ⟨⟨⟨c00, c01, c02⟩, ⟨c10, c11, c12⟩, ⟨c20, c21, c22⟩, -⟩, -⟩ := Sd.of HK.out
        go_wp2
        go_ret
        exact ⟨rfl, HK.out.2.1⟩
      · rw [hg2] at HG2
        have HD2 := Lib.hid (DA.of_good hg2)
        have HY2 := Lib.hid hg2
        clear hg2
        generalize dval (bdigs s2) = N2 at *
        go_enter Tryd.func8, Tryd.ntmps8
        go_wp2_with fail
        refine (HG0.out _ HK.out.1).mono ?_
        rintro r w1 ⟨rfl, hb⟩
        have hk := HK.out.keep hb
        replace HK := Lib.hid hk
        clear hk hb
        obtain ⟨⟨⟨c00, c01, c02⟩, ⟨c10, c11, c12⟩, ⟨c20, c21, c22⟩, -⟩, -⟩ := Sd.of HK.out
        go_wp2_with fail
        refine (HG1.out _ HK.out.1).mono ?_
        rintro r w2 ⟨rfl, hb⟩
        clear c00 c01 c02 c10 c11 c12 c20 c21 c22
        have hk := HK.out.keep hb
        replace HK := Lib.hid hk
        clear hk hb
        obtain ⟨⟨⟨c00, c01, c02⟩, ⟨c10, c11, c12⟩, ⟨c20, c21, c22⟩, -⟩, -⟩ := Sd.of HK.out
        go_wp2_with fail
        refine (HG2.out _ HK.out.1).mono ?_
        rintro r w3 ⟨rfl, hb⟩
        clear c00 c01 c02 c10 c11 c12 c20 c21 c22
        have hk := HK.out.keep hb
        replace HK := Lib.hid hk
        clear hk hb
        obtain ⟨⟨⟨c00, c01, c02⟩, ⟨c10, c11, c12⟩, ⟨c20, c21, c22⟩, -⟩, -⟩ := Sd.of HK.out
        have h3 := @cmpV_three n0 n1 n2 N0 N1 N2 e0 e1 e2
        obtain ⟨C1, hC1⟩ : ∃ C, cmpV n0 N0 e0 n1 N1 e1 = C := ⟨_, rfl⟩
        rw [hC1] at h3
        have HC1 := Lib.hid hC1
        clear hC1
        obtain ⟨C2, hC2⟩ : ∃ C, cmpV n1 N1 e1 n2 N2 e2 = C := ⟨_, rfl⟩
        rw [hC2] at h3
        have HC2 := Lib.hid hC2
        clear hC2
        obtain ⟨C3, hC3⟩ : ∃ C, cmpV n0 N0 e0 n2 N2 e2 = C := ⟨_, rfl⟩
        rw [hC3] at h3
        have HC3 := Lib.hid hC3
        clear hC3
        have H3 := Lib.hid h3
        clear h3
        by_cases h1 : 0 < C1
        · go_wp2_with fail
          refine (decCmp_v _ _ _ _ _ _ _ _ _ _ _ HD0.out HD1.out HC1.out (by omega) HK.out.1).mono ?_
          rintro r w4 ⟨rfl, hb⟩
          clear c00 c01 c02 c10 c11 c12 c20 c21 c22
          have hk := HK.out.keep hb
          replace HK := Lib.hid hk
          clear hk hb
          obtain ⟨⟨⟨c00, c01, c02⟩, ⟨c10, c11, c12⟩, ⟨c20, c21, c22⟩, -⟩, -⟩ := Sd.of HK.out
          go_wp2_with fail
          refine (answers05_c _ HK.out.1).mono ?_
          rintro r w5 ⟨rfl, hb⟩
          clear c00 c01 c02 c10 c11 c12 c20 c21 c22
          have hk := HK.out.keep hb
          replace HK := Lib.hid hk
          clear hk hb
          obtain ⟨⟨⟨c00, c01, c02⟩, ⟨c10, c11, c12⟩, ⟨c20, c21, c22⟩, -⟩, -⟩ := Sd.of HK.out
          go_wp2
          go_ret
          exact ⟨rfl, HK.out.2.1⟩
        · go_wp2_with fail
          refine (decCmp_v _ _ _ _ _ _ _ _ _ _ _ HD0.out HD1.out HC1.out (by omega) HK.out.1).mono ?_
          rintro r w4 ⟨rfl, hb⟩
          clear c00 c01 c02 c10 c11 c12 c20 c21 c22
          have hk := HK.out.keep hb
          replace HK := Lib.hid hk
          clear hk hb
          obtain ⟨⟨⟨c00, c01, c02⟩, ⟨c10, c11, c12⟩, ⟨c20, c21, c22⟩, -⟩, -⟩ := Sd.of HK.out
          by_cases h2 : 0 < C2
          · go_wp2_with fail
            refine (decCmp_v _ _ _ _ _ _ _ _ _ _ _ HD1.out HD2.out HC2.out (by omega) HK.out.1).mono ?_
            rintro r w5 ⟨rfl, hb⟩
            clear c00 c01 c02 c10 c11 c12 c20 c21 c22
            have hk := HK.out.keep hb
            replace HK := Lib.hid hk
            clear hk hb
            obtain ⟨⟨⟨c00, c01, c02⟩, ⟨c10, c11, c12⟩, ⟨c20, c21, c22⟩, -⟩, -⟩ := Sd.of HK.out
            go_wp2_with fail
            refine (answers05_c _ HK.out.1).mono ?_
            rintro r w6 ⟨rfl, hb⟩
            clear c00 c01 c02 c10 c11 c12 c20 c21 c22
            have hk := HK.out.keep hb
            replace HK := Lib.hid hk
            clear hk hb
            obtain ⟨⟨⟨c00, c01, c02⟩, ⟨c10, c11, c12⟩, ⟨c20, c21, c22⟩, -⟩, -⟩ := Sd.of HK.out
            go_wp2
            go_ret
            exact ⟨rfl, HK.out.2.1⟩
          · have hle := (H3.out (by omega) (by omega)).1
            have HQ := Lib.hid (H3.out (by omega) (by omega)).2
            go_wp2_with fail
            refine (decCmp_v _ _ _ _ _ _ _ _ _ _ _ HD1.out HD2.out HC2.out (by omega) HK.out.1).mono ?_
            rintro r w5 ⟨rfl, hb⟩
            clear c00 c01 c02 c10 c11 c12 c20 c21 c22
            have hk := HK.out.keep hb
            replace HK := Lib.hid hk
            clear hk hb
            obtain ⟨⟨⟨c00, c01, c02⟩, ⟨c10, c11, c12⟩, ⟨c20, c21, c22⟩, -⟩, -⟩ := Sd.of HK.out
            go_wp2_with fail
            refine (answers05_c _ HK.out.1).mono ?_
            rintro r w6 ⟨rfl, hb⟩
            clear c00 c01 c02 c10 c11 c12 c20 c21 c22
            have hk := HK.out.keep hb
            replace HK := Lib.hid hk
            clear hk hb
            obtain ⟨⟨⟨c00, c01, c02⟩, ⟨c10, c11, c12⟩, ⟨c20, c21, c22⟩, -⟩, -⟩ := Sd.of HK.out
            go_wp2_with fail
            refine (decCmp_v _ _ _ _ _ _ _ _ _ _ _ HD0.out HD2.out HC3.out (by omega) HK.out.1).mono ?_
            rintro r w7 ⟨rfl, hb⟩
            clear c00 c01 c02 c10 c11 c12 c20 c21 c22
            have hk := HK.out.keep hb
            replace HK := Lib.hid hk
            clear hk hb
            obtain ⟨⟨⟨c00, c01, c02⟩, ⟨c10, c11, c12⟩, ⟨c20, c21, c22⟩, -⟩, -⟩ := Sd.of HK.out
            by_cases h3 : C3 < 0
            · go_wp2_with fail
              refine (decCmp_v _ _ _ _ _ _ _ _ _ _ _ HD0.out HD2.out HC3.out (by omega) HK.out.1).mono ?_
              rintro r w8 ⟨rfl, hb⟩
              clear c00 c01 c02 c10 c11 c12 c20 c21 c22
              have hk := HK.out.keep hb
              replace HK := Lib.hid hk
              clear hk hb
              obtain ⟨⟨⟨c00, c01, c02⟩, ⟨c10, c11, c12⟩, ⟨c20, c21, c22⟩, -⟩, -⟩ := Sd.of HK.out
              go_wp2
              go_ret
              exact ⟨rfl, HK.out.2.1⟩
            · obtain rfl : C3 = 0 := by omega
              obtain ⟨q1, q2⟩ := HQ.out rfl
              subst q1 q2
              clear h3 hle h1 h2
              go_wp2_with fail
              refine (decCmp_v _ _ _ _ _ _ _ _ _ _ _ HD0.out HD2.out HC3.out (by omega) HK.out.1).mono ?_
              rintro r w8 ⟨rfl, hb⟩
              clear c00 c01 c02 c10 c11 c12 c20 c21 c22
              have hk := HK.out.keep hb
              replace HK := Lib.hid hk
              clear hk hb
              obtain ⟨⟨⟨c00, c01, c02⟩, ⟨c10, c11, c12⟩, ⟨c20, c21, c22⟩, -⟩, -⟩ := Sd.of HK.out
              go_wp2_with fail
              refine (decCmp_v _ _ _ _ _ _ _ _ _ _ _ HD0.out HD1.out HC1.out (by omega) HK.out.1).mono ?_
              rintro r w9 ⟨rfl, hb⟩
              clear c00 c01 c02 c10 c11 c12 c20 c21 c22
              have hk := HK.out.keep hb
              replace HK := Lib.hid hk
              clear hk hb
              obtain ⟨⟨⟨c00, c01, c02⟩, ⟨c10, c11, c12⟩, ⟨c20, c21, c22⟩, -⟩, -⟩ := Sd.of HK.out
              go_wp2_with fail
              refine (decCmp_v _ _ _ _ _ _ _ _ _ _ _ HD1.out HD2.out HC2.out (by omega) HK.out.1).mono ?_
              rintro r w10 ⟨rfl, hb⟩
              clear c00 c01 c02 c10 c11 c12 c20 c21 c22
              have hk := HK.out.keep hb
              replace HK := Lib.hid hk
              clear hk hb
              obtain ⟨⟨⟨c00, c01, c02⟩, ⟨c10, c11, c12⟩, ⟨c20, c21, c22⟩, -⟩, -⟩ := Sd.of HK.out
              go_wp2
              go_ret
              exact ⟨rfl, HK.out.2.1⟩
end Go.Proofs.YtijalgngcbifgaaDoor
