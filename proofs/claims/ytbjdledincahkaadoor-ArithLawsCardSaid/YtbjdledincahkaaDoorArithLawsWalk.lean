/-
  ArithLaws: the walk.
-/
import Derived.Test.YtbjdledincahkaaDoorAn6
namespace Go.Proofs.YtbjdledincahkaaDoor
open Go.RowKit
set_option maxHeartbeats 16000000 in
set_option maxRecDepth 100000 in
theorem walk_arithLaws (n0 : Bool) (s0 : ByteArray) (e0 : Int) (n1 : Bool) (s1 : ByteArray) (e1 : Int) (n2 : Bool) (s2 : ByteArray) (e2 : Int) (w : World) (h0 : s0.size ≤ maxLen) (h1 : s1.size ≤ maxLen) (h2 : s2.size ≤ maxLen) (hP : Pw w) :
    Calls Tryd.prog 5 #[.agg #[.bool n0, .string s0, .int .i64 e0], .agg #[.bool n1, .string s1, .int .i64 e1], .agg #[.bool n2, .string s2, .int .i64 e2]] w fun e w' => e = .returned (.bool true) ∧ Below w.heap.size w w' := by
  have HK := Lib.hid (kept_three w (.bool n0) (.string s0) (.int .i64 e0) (.bool n1) (.string s1) (.int .i64 e1) (.bool n2) (.string s2) (.int .i64 e2) 23 hP)
  clear hP
  have HG := Lib.hid (fun b w hg hP => good06_3 n0 n1 n2 s0 s1 s2 e0 e1 e2 b w hg h0 h1 h2 hP)
  rcases hgg : (fineD 200 s0 e0 && (fineD 200 s1 e1 && fineD 200 s2 e2)) with _ | _
  · rw [hgg] at HG
    clear hgg
    go_enter Tryd.func5, Tryd.ntmps5
    go_wp2_with fail
    refine (HG.out _ _ (by simp) HK.out.1).mono ?_
    rintro r w1 ⟨rfl, hb⟩
    have hk := HK.out.keep hb
    replace HK := Lib.hid hk
    clear hk hb
    obtain ⟨⟨⟨c00, c01, c02⟩, ⟨c10, c11, c12⟩, ⟨c20, c21, c22⟩, -⟩, -⟩ := Sd.of HK.out
    go_wp2_with fail
    refine (answers06_c _ HK.out.1).mono ?_
    rintro r w2 ⟨rfl, hb⟩
    clear c00 c01 c02 c10 c11 c12 c20 c21 c22
    have hk := HK.out.keep hb
    replace HK := Lib.hid hk
    clear hk hb
    obtain ⟨⟨⟨c00, c01, c02⟩, ⟨c10, c11, c12⟩, ⟨c20, c21, c22⟩, -⟩, -⟩ := Sd.of HK.out
    go_wp2
    go_ret
    exact ⟨rfl, HK.out.2.1⟩
  · rw [hgg] at HG
    simp only [Bool.and_eq_true] at hgg
    obtain ⟨hf0, hf1, hf2⟩ := hgg
    by_cases h0a : e0 < -300
    · clear hf0 hf1 hf2
      go_enter Tryd.func5, Tryd.ntmps5
      go_wp2_with fail
      refine (HG.out _ _ (by simp) HK.out.1).mono ?_
      rintro r w1 ⟨rfl, hb⟩
      have hk := HK.out.keep hb
      replace HK := Lib.hid hk
      clear hk hb
      obtain ⟨⟨⟨c00, c01, c02⟩, ⟨c10, c11, c12⟩, ⟨c20, c21, c22⟩, -⟩, -⟩ := Sd.of HK.out
      go_wp2_with fail
      refine (answers06_c _ HK.out.1).mono ?_
      rintro r w2 ⟨rfl, hb⟩
      clear c00 c01 c02 c10 c11 c12 c20 c21 c22
      have hk := HK.out.keep hb
      replace HK := Lib.hid hk
      clear hk hb
      obtain ⟨⟨⟨c00, c01, c02⟩, ⟨c10, c11, c12⟩, ⟨c20, c21, c22⟩, -⟩, -⟩ := Sd.of HK.out
      go_wp2
      go_ret
      exact ⟨rfl, HK.out.2.1⟩
    · by_cases h0b : 300 < e0
      · clear hf0 hf1 hf2
        go_enter Tryd.func5, Tryd.ntmps5
        go_wp2_with fail
        refine (HG.out _ _ (by simp) HK.out.1).mono ?_
        rintro r w1 ⟨rfl, hb⟩
        have hk := HK.out.keep hb
        replace HK := Lib.hid hk
        clear hk hb
        obtain ⟨⟨⟨c00, c01, c02⟩, ⟨c10, c11, c12⟩, ⟨c20, c21, c22⟩, -⟩, -⟩ := Sd.of HK.out
        go_wp2_with fail
        refine (answers06_c _ HK.out.1).mono ?_
        rintro r w2 ⟨rfl, hb⟩
        clear c00 c01 c02 c10 c11 c12 c20 c21 c22
        have hk := HK.out.keep hb
        replace HK := Lib.hid hk
        clear hk hb
        obtain ⟨⟨⟨c00, c01, c02⟩, ⟨c10, c11, c12⟩, ⟨c20, c21, c22⟩, -⟩, -⟩ := Sd.of HK.out
        go_wp2
        go_ret
        exact ⟨rfl, HK.out.2.1⟩
      · by_cases h1a : e1 < -300
        · clear hf0 hf1 hf2
          go_enter Tryd.func5, Tryd.ntmps5
          go_wp2_with fail
          refine (HG.out _ _ (by simp) HK.out.1).mono ?_
          rintro r w1 ⟨rfl, hb⟩
          have hk := HK.out.keep hb
          replace HK := Lib.hid hk
          clear hk hb
          obtain ⟨⟨⟨c00, c01, c02⟩, ⟨c10, c11, c12⟩, ⟨c20, c21, c22⟩, -⟩, -⟩ := Sd.of HK.out
          go_wp2_with fail
          refine (answers06_c _ HK.out.1).mono ?_
          rintro r w2 ⟨rfl, hb⟩
          clear c00 c01 c02 c10 c11 c12 c20 c21 c22
          have hk := HK.out.keep hb
          replace HK := Lib.hid hk
          clear hk hb
          obtain ⟨⟨⟨c00, c01, c02⟩, ⟨c10, c11, c12⟩, ⟨c20, c21, c22⟩, -⟩, -⟩ := Sd.of HK.out
          go_wp2
          go_ret
          exact ⟨rfl, HK.out.2.1⟩
        · by_cases h1b : 300 < e1
          · clear hf0 hf1 hf2
            go_enter Tryd.func5, Tryd.ntmps5
            go_wp2_with fail
            refine (HG.out _ _ (by simp) HK.out.1).mono ?_
            rintro r w1 ⟨rfl, hb⟩
            have hk := HK.out.keep hb
            replace HK := Lib.hid hk
            clear hk hb
            obtain ⟨⟨⟨c00, c01, c02⟩, ⟨c10, c11, c12⟩, ⟨c20, c21, c22⟩, -⟩, -⟩ := Sd.of HK.out
            go_wp2_with fail
            refine (answers06_c _ HK.out.1).mono ?_
            rintro r w2 ⟨rfl, hb⟩
            clear c00 c01 c02 c10 c11 c12 c20 c21 c22
            have hk := HK.out.keep hb
            replace HK := Lib.hid hk
            clear hk hb
            obtain ⟨⟨⟨c00, c01, c02⟩, ⟨c10, c11, c12⟩, ⟨c20, c21, c22⟩, -⟩, -⟩ := Sd.of HK.out
            go_wp2
            go_ret
            exact ⟨rfl, HK.out.2.1⟩
          · by_cases h2a : e2 < -300
            · clear hf0 hf1 hf2
              go_enter Tryd.func5, Tryd.ntmps5
              go_wp2_with fail
              refine (HG.out _ _ (by simp) HK.out.1).mono ?_
              rintro r w1 ⟨rfl, hb⟩
              have hk := HK.out.keep hb
              replace HK := Lib.hid hk
              clear hk hb
              obtain ⟨⟨⟨c00, c01, c02⟩, ⟨c10, c11, c12⟩, ⟨c20, c21, c22⟩, -⟩, -⟩ := Sd.of HK.out
              go_wp2_with fail
              refine (answers06_c _ HK.out.1).mono ?_
              rintro r w2 ⟨rfl, hb⟩
              clear c00 c01 c02 c10 c11 c12 c20 c21 c22
              have hk := HK.out.keep hb
              replace HK := Lib.hid hk
              clear hk hb
              obtain ⟨⟨⟨c00, c01, c02⟩, ⟨c10, c11, c12⟩, ⟨c20, c21, c22⟩, -⟩, -⟩ := Sd.of HK.out
              go_wp2
              go_ret
              exact ⟨rfl, HK.out.2.1⟩
            · by_cases h2b : 300 < e2
              · clear hf0 hf1 hf2
                go_enter Tryd.func5, Tryd.ntmps5
                go_wp2_with fail
                refine (HG.out _ _ (by simp) HK.out.1).mono ?_
                rintro r w1 ⟨rfl, hb⟩
                have hk := HK.out.keep hb
                replace HK := Lib.hid hk
                clear hk hb
                obtain ⟨⟨⟨c00, c01, c02⟩, ⟨c10, c11, c12⟩, ⟨c20, c21, c22⟩, -⟩, -⟩ := Sd.of HK.out
                go_wp2_with fail
                refine (answers06_c _ HK.out.1).mono ?_
                rintro r w2 ⟨rfl, hb⟩
                clear c00 c01 c02 c10 c11 c12 c20 c21 c22
                have hk := HK.out.keep hb
                replace HK := Lib.hid hk
                clear hk hb
                obtain ⟨⟨⟨c00, c01, c02⟩, ⟨c10, c11, c12⟩, ⟨c20, c21, c22⟩, -⟩, -⟩ := Sd.of HK.out
                go_wp2
                go_ret
                exact ⟨rfl, HK.out.2.1⟩
              · obtain ⟨V0, hv0, hl0⟩ := DV.fine300 n0 hf0 (by omega) (by omega) (by omega)
                have HV0 := Lib.hid hv0
                clear hv0 hf0
                obtain ⟨V1, hv1, hl1⟩ := DV.fine300 n1 hf1 (by omega) (by omega) (by omega)
                have HV1 := Lib.hid hv1
                clear hv1 hf1
                obtain ⟨V2, hv2, hl2⟩ := DV.fine300 n2 hf2 (by omega) (by omega) (by omega)
                have HV2 := Lib.hid hv2
                clear hv2 hf2
                obtain ⟨S1, hS1⟩ : ∃ S, V0 + V1 = S := ⟨_, rfl⟩
                obtain ⟨S2, hS2⟩ : ∃ S, S1 + V2 = S := ⟨_, rfl⟩
                obtain ⟨S3, hS3⟩ : ∃ S, V1 + V2 = S := ⟨_, rfl⟩
                obtain ⟨M1, hM1⟩ : ∃ S, V0 * S3 = S := ⟨_, rfl⟩
                obtain ⟨M2, hM2⟩ : ∃ S, V0 * V1 = S := ⟨_, rfl⟩
                obtain ⟨M3, hM3⟩ : ∃ S, V0 * V2 = S := ⟨_, rfl⟩
                have hb1 := len_add hl0 hl1
                have hb3 := len_add hl1 hl2
                have hc1 := len_mul hl0 hb3
                have hc2 := len_mul hl0 hl1
                have hc3 := len_mul hl0 hl2
                rw [hS1] at hb1
                rw [hS3] at hb3 hc1
                rw [hM1] at hc1
                rw [hM2] at hc2
                rw [hM3] at hc3
                have HS1 := Lib.hid (DV.z (k := -300) (Z := S1) (by omega) (by omega) (by omega))
                have HS3 := Lib.hid (DV.z (k := -300) (Z := S3) (by omega) (by omega) (by omega))
                have HM2 := Lib.hid (DV.z (k := -600) (Z := M2) (by omega) (by omega) (by omega))
                have HM3 := Lib.hid (DV.z (k := -600) (Z := M3) (by omega) (by omega) (by omega))
                have HL1 := Lib.hid (show (decs M1.natAbs).length ≤ 4900 by omega)
                have HL2 := Lib.hid (show (decs M2.natAbs).length ≤ 4900 by omega)
                have HL3 := Lib.hid (show (decs M3.natAbs).length ≤ 4900 by omega)
                have E1 := Lib.hid hS1
                have E2 := Lib.hid (show V1 + V0 = S1 by rw [Int.add_comm]; exact hS1)
                have E3 := Lib.hid hS2
                have E4 := Lib.hid hS3
                have E5 := Lib.hid (show V0 + S3 = S2 by rw [← hS3, ← hS2, ← hS1, Int.add_assoc])
                have E6 := Lib.hid (show M2 + M3 = M1 by rw [← hM1, ← hM2, ← hM3, ← hS3, Int.mul_add])
                have F1 := Lib.hid hM1
                have F2 := Lib.hid hM2
                have F3 := Lib.hid hM3
                have HSUB := Lib.hid (fun (w : World) (hP : Pw w) => sub_d (Z := 0) (w := w) HV0.out HV0.out (Int.sub_self V0) hP)
                rw [(z_zero 0).1, (z_zero 0).2.1, (z_zero (-300)).2.2] at HSUB
                clear hS1 hS2 hS3 hM1 hM2 hM3 hb1 hb3 hc1 hc2 hc3 hl0 hl1 hl2
                go_enter Tryd.func5, Tryd.ntmps5
                go_wp2_with fail
                refine (HG.out _ _ (by simp) HK.out.1).mono ?_
                rintro r w1 ⟨rfl, hb⟩
                have hk := HK.out.keep hb
                replace HK := Lib.hid hk
                clear hk hb
                obtain ⟨⟨⟨c00, c01, c02⟩, ⟨c10, c11, c12⟩, ⟨c20, c21, c22⟩, -⟩, -⟩ := Sd.of HK.out
                go_wp2
                clear c00 c01 c02 c10 c11 c12 c20 c21 c22
                have hS : Sd w [(w.heap.size, .bool n0, .string s0, .int .i64 (e0)), (w.heap.size + 1, .bool n1, .string s1, .int .i64 (e1)), (w.heap.size + 2, .bool n2, .string s2, .int .i64 (e2))] _ := .of HK.out.drew
                go_region_held3 (fun w' => ((w'.cell? ⟨w.heap.size, 0, none⟩ = some (.bool n0) ∧ w'.cell? ⟨w.heap.size, 1, none⟩ = some (.string s0) ∧ w'.cell? ⟨w.heap.size, 2, none⟩ = some (.int .i64 (e0))) ∧ (w'.cell? ⟨w.heap.size + 1, 0, none⟩ = some (.bool n1) ∧ w'.cell? ⟨w.heap.size + 1, 1, none⟩ = some (.string s1) ∧ w'.cell? ⟨w.heap.size + 1, 2, none⟩ = some (.int .i64 (e1))) ∧ (w'.cell? ⟨w.heap.size + 2, 0, none⟩ = some (.bool n2) ∧ w'.cell? ⟨w.heap.size + 2, 1, none⟩ = some (.string s2) ∧ w'.cell? ⟨w.heap.size + 2, 2, none⟩ = some (.int .i64 (e2))) ∧ True) ∧ Hid (Kept3 w [(w.heap.size, .bool n0, .string s0, .int .i64 (e0)), (w.heap.size + 1, .bool n1, .string s1, .int .i64 (e1)), (w.heap.size + 2, .bool n2, .string s2, .int .i64 (e2))] w')) (assumption)
                  (first
                    | (go_at_call 9; refine (answers06_c _ (Sd.pw (w0 := w) (L := [(w.heap.size, .bool n0, .string s0, .int .i64 (e0)), (w.heap.size + 1, .bool n1, .string s1, .int .i64 (e1)), (w.heap.size + 2, .bool n2, .string s2, .int .i64 (e2))]) (by assumption))).mono ?_; rintro r w1 ⟨rfl, hb⟩; have hS := Sd.keep (w0 := w) (L := [(w.heap.size, .bool n0, .string s0, .int .i64 (e0)), (w.heap.size + 1, .bool n1, .string s1, .int .i64 (e1)), (w.heap.size + 2, .bool n2, .string s2, .int .i64 (e2))]) (by assumption) hb; clear hb)
                    | (go_at_call 10; refine (add_d (by first | exact HV0.out | exact HV1.out | exact HV2.out | exact HS1.out | exact HS3.out | exact HM2.out | exact HM3.out) (by first | exact HV0.out | exact HV1.out | exact HV2.out | exact HS1.out | exact HS3.out | exact HM2.out | exact HM3.out) (by first | exact E1.out | exact E2.out | exact E3.out | exact E4.out | exact E5.out | exact E6.out) (Sd.pw (w0 := w) (L := [(w.heap.size, .bool n0, .string s0, .int .i64 (e0)), (w.heap.size + 1, .bool n1, .string s1, .int .i64 (e1)), (w.heap.size + 2, .bool n2, .string s2, .int .i64 (e2))]) (by assumption))).mono ?_; rintro r w1 ⟨rfl, hb⟩; have hS := Sd.keep (w0 := w) (L := [(w.heap.size, .bool n0, .string s0, .int .i64 (e0)), (w.heap.size + 1, .bool n1, .string s1, .int .i64 (e1)), (w.heap.size + 2, .bool n2, .string s2, .int .i64 (e2))]) (by assumption) hb; clear hb)
                    | (go_at_call 14; refine (mul_d (K := -600) HV0.out (by first | exact HV0.out | exact HV1.out | exact HV2.out | exact HS1.out | exact HS3.out | exact HM2.out | exact HM3.out) (by first | exact F1.out | exact F2.out | exact F3.out) (by omega) (by first | exact HL1.out | exact HL2.out | exact HL3.out) (Sd.pw (w0 := w) (L := [(w.heap.size, .bool n0, .string s0, .int .i64 (e0)), (w.heap.size + 1, .bool n1, .string s1, .int .i64 (e1)), (w.heap.size + 2, .bool n2, .string s2, .int .i64 (e2))]) (by assumption))).mono ?_; rintro r w1 ⟨rfl, hb⟩; have hS := Sd.keep (w0 := w) (L := [(w.heap.size, .bool n0, .string s0, .int .i64 (e0)), (w.heap.size + 1, .bool n1, .string s1, .int .i64 (e1)), (w.heap.size + 2, .bool n2, .string s2, .int .i64 (e2))]) (by assumption) hb; clear hb)
                    | (go_at_call 12; refine (HSUB.out _ (Sd.pw (w0 := w) (L := [(w.heap.size, .bool n0, .string s0, .int .i64 (e0)), (w.heap.size + 1, .bool n1, .string s1, .int .i64 (e1)), (w.heap.size + 2, .bool n2, .string s2, .int .i64 (e2))]) (by assumption))).mono ?_; rintro r w1 ⟨rfl, hb⟩; have hS := Sd.keep (w0 := w) (L := [(w.heap.size, .bool n0, .string s0, .int .i64 (e0)), (w.heap.size + 1, .bool n1, .string s1, .int .i64 (e1)), (w.heap.size + 2, .bool n2, .string s2, .int .i64 (e2))]) (by assumption) hb; clear hb))
                rename_i hHeld
                clear hHeld
                have HB := Lib.hid hS.bel
                clear hS
                go_wp2
                go_ret
                exact ⟨rfl, HB.out⟩
end Go.Proofs.YtbjdledincahkaaDoor
