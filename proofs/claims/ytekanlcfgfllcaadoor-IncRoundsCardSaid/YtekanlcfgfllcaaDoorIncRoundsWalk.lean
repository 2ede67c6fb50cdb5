/-
  IncRounds: the walk.
-/
import Derived.Test.YtekanlcfgfllcaaDoorIn10
set_option maxRecDepth 100000
namespace Go.Proofs.YtekanlcfgfllcaaDoor
open Go.RowKit
attribute [local go_sem] dec_field0 dec_field1 dec_field2 in
set_option maxHeartbeats 16000000 in
set_option maxRecDepth 100000 in
theorem walk_incRounds (m : Int) (nd : Bool) (sd : ByteArray) (ed : Int) (t : ByteArray) (a : Int) (w : World) (hm : -9223372036854775808 ≤ m ∧ m ≤ 9223372036854775807) (hd : sd.size ≤ maxLen) (ht : t.size ≤ maxLen) (ha : -9223372036854775808 ≤ a ∧ a ≤ 9223372036854775807) (hP : Pw w) :
    Calls Tryd.prog 3 #[.int .i64 m, .agg #[.bool nd, .string sd, .int .i64 ed], .string t, .int .i64 a] w fun e w' => e = .returned (.bool true) ∧ Below w.heap.size w w' := by
  have HK := Lib.hid (kept_one w (.bool nd) (.string sd) (.int .i64 ed) 23 hP)
  clear hP
  have HG := Lib.hid (fun w hP => good10_c nd sd ed a w hd hP)
  have HMAY := Lib.hid (fun w => may10_c t w ht)
  rcases hg : g10 sd ed a with _ | _
  · rw [hg] at HG
    clear hg
    go_enter Tryd.func3, Tryd.ntmps3
    go_wp2_with fail
    refine (HG.out _ HK.out.1).mono ?_
    rintro r w1 ⟨rfl, hb⟩
    have hk := HK.out.keep hb
    replace HK := Lib.hid hk
    clear hk hb
    obtain ⟨⟨⟨c00, c01, c02⟩, -⟩, -⟩ := Sd.of HK.out
    go_wp2_with fail
    refine (answers10_c _ HK.out.1).mono ?_
    rintro r w2 ⟨rfl, hb⟩
    clear c00 c01 c02
    have hk := HK.out.keep hb
    replace HK := Lib.hid hk
    clear hk hb
    obtain ⟨⟨⟨c00, c01, c02⟩, -⟩, -⟩ := Sd.of HK.out
    go_wp2
    go_ret
    exact ⟨rfl, HK.out.2.1⟩
  · rw [hg] at HG
    obtain ⟨hf, ha1, ha2, he1, he2⟩ := g10_true hg
    obtain ⟨X, hu, hl⟩ := DU.of_fine (k := -100) hf (by omega) (by omega) (by omega)
    have HU := Lib.hid hu
    clear hg hf hu
    by_cases hm1 : m < 0
    · have HR := Lib.hid (fun (w : World) (hP : Pw w) => incRound_no m nd sd ed t a w (.inr (isWay_false (by omega))) ht hP)

      go_enter Tryd.func3, Tryd.ntmps3
      go_wp2_with fail
      refine (HG.out _ HK.out.1).mono ?_
      rintro r w1 ⟨rfl, hb⟩
      have hk := HK.out.keep hb
      replace HK := Lib.hid hk
      clear hk hb
      obtain ⟨⟨⟨c00, c01, c02⟩, -⟩, -⟩ := Sd.of HK.out
      go_wp2_with fail
      refine (HR.out _ HK.out.1).mono ?_
      rintro r w2 ⟨rfl, hb⟩
      clear c00 c01 c02
      have hk := HK.out.keep hb
      replace HK := Lib.hid hk
      clear hk hb
      replace HK := Lib.hid (show Kept3 w [(w.heap.size, .bool nd, .string sd, .int .i64 (ed)), (w2.heap.size, .bool false, .string ⟨#[]⟩, .int .i64 (0))] (w2.alloc (.cells #[.bool false, .string ⟨#[]⟩, .int .i64 (0)] 23)) from HK.out.grow _ _ _ _)
      obtain ⟨⟨⟨c00, c01, c02⟩, ⟨c10, c11, c12⟩, -⟩, -⟩ := Sd.of HK.out
      go_wp2_with fail
      refine (answers10_c _ HK.out.1).mono ?_
      rintro r w3 ⟨rfl, hb⟩
      clear c00 c01 c02 c10 c11 c12
      have hk := HK.out.keep hb
      replace HK := Lib.hid hk
      clear hk hb
      obtain ⟨⟨⟨c00, c01, c02⟩, ⟨c10, c11, c12⟩, -⟩, -⟩ := Sd.of HK.out
      go_wp2
      go_ret
      exact ⟨rfl, HK.out.2.1⟩
    · by_cases hm2 : 7 < m
      · have HR := Lib.hid (fun (w : World) (hP : Pw w) => incRound_no m nd sd ed t a w (.inr (isWay_false (by omega))) ht hP)

        go_enter Tryd.func3, Tryd.ntmps3
        go_wp2_with fail
        refine (HG.out _ HK.out.1).mono ?_
        rintro r w1 ⟨rfl, hb⟩
        have hk := HK.out.keep hb
        replace HK := Lib.hid hk
        clear hk hb
        obtain ⟨⟨⟨c00, c01, c02⟩, -⟩, -⟩ := Sd.of HK.out
        go_wp2_with fail
        refine (HR.out _ HK.out.1).mono ?_
        rintro r w2 ⟨rfl, hb⟩
        clear c00 c01 c02
        have hk := HK.out.keep hb
        replace HK := Lib.hid hk
        clear hk hb
        replace HK := Lib.hid (show Kept3 w [(w.heap.size, .bool nd, .string sd, .int .i64 (ed)), (w2.heap.size, .bool false, .string ⟨#[]⟩, .int .i64 (0))] (w2.alloc (.cells #[.bool false, .string ⟨#[]⟩, .int .i64 (0)] 23)) from HK.out.grow _ _ _ _)
        obtain ⟨⟨⟨c00, c01, c02⟩, ⟨c10, c11, c12⟩, -⟩, -⟩ := Sd.of HK.out
        go_wp2_with fail
        refine (answers10_c _ HK.out.1).mono ?_
        rintro r w3 ⟨rfl, hb⟩
        clear c00 c01 c02 c10 c11 c12
        have hk := HK.out.keep hb
        replace HK := Lib.hid hk
        clear hk hb
        obtain ⟨⟨⟨c00, c01, c02⟩, ⟨c10, c11, c12⟩, -⟩, -⟩ := Sd.of HK.out
        go_wp2
        go_ret
        exact ⟨rfl, HK.out.2.1⟩
      · rcases hst : stepB t with _ | _
        · have HR := Lib.hid (fun (w : World) (hP : Pw w) => incRound_no m nd sd ed t a w (.inl hst) ht hP)
          rw [hst] at HMAY
          clear hst
          go_enter Tryd.func3, Tryd.ntmps3
          go_wp2_with fail
          refine (HG.out _ HK.out.1).mono ?_
          rintro r w1 ⟨rfl, hb⟩
          have hk := HK.out.keep hb
          replace HK := Lib.hid hk
          clear hk hb
          obtain ⟨⟨⟨c00, c01, c02⟩, -⟩, -⟩ := Sd.of HK.out
          go_wp2_with fail
          refine (HR.out _ HK.out.1).mono ?_
          rintro r w2 ⟨rfl, hb⟩
          clear c00 c01 c02
          have hk := HK.out.keep hb
          replace HK := Lib.hid hk
          clear hk hb
          replace HK := Lib.hid (show Kept3 w [(w.heap.size, .bool nd, .string sd, .int .i64 (ed)), (w2.heap.size, .bool false, .string ⟨#[]⟩, .int .i64 (0))] (w2.alloc (.cells #[.bool false, .string ⟨#[]⟩, .int .i64 (0)] 23)) from HK.out.grow _ _ _ _)
          obtain ⟨⟨⟨c00, c01, c02⟩, ⟨c10, c11, c12⟩, -⟩, -⟩ := Sd.of HK.out
          go_wp2_with fail
          refine (HMAY.out _).mono ?_
          rintro r w3 ⟨rfl, hb⟩
          clear c00 c01 c02 c10 c11 c12
          have hk := HK.out.keep hb
          replace HK := Lib.hid hk
          clear hk hb
          obtain ⟨⟨⟨c00, c01, c02⟩, ⟨c10, c11, c12⟩, -⟩, -⟩ := Sd.of HK.out
          go_wp2_with fail
          refine (answers10_c _ HK.out.1).mono ?_
          rintro r w4 ⟨rfl, hb⟩
          clear c00 c01 c02 c10 c11 c12
          have hk := HK.out.keep hb
          replace HK := Lib.hid hk
          clear hk hb
          obtain ⟨⟨⟨c00, c01, c02⟩, ⟨c10, c11, c12⟩, -⟩, -⟩ := Sd.of HK.out
          go_wp2
          go_ret
          exact ⟨rfl, HK.out.2.1⟩
        · rw [hst] at HMAY
          obtain ⟨hda, hS0, hSl⟩ := step_da hst
          obtain ⟨S, hS⟩ : ∃ S, dval (bdigs t) = S := ⟨_, rfl⟩
          rw [hS] at hda hS0 hSl
          have HST := Lib.hid hst
          have HSV := Lib.hid hS
          have HDA := Lib.hid hda
          have HT := Lib.hid ht
          have hWl := decs_pow_le S (a - -100).toNat _ hSl
          clear hst hS hda ht
          obtain ⟨n', s', e', c, hv⟩ := rndV_shape m nd X (S * 10 ^ (a - -100).toNat) (-100)
          have HR := Lib.hid (fun (w : World) (hP : Pw w) => incRound_u (m := m) (n := nd) (p := a) (t := t) (v := _) (w := w) (isWay_true (by omega) (by omega)) HU.out HST.out HSV.out HT.out (by omega) (by omega) rfl (by omega) (hv) hP)
          have HQ := Lib.hid (fun (w : World) (hP : Pw w) => ref5Round_u (m := m) (n := nd) (p := a) (t := t) (w := w) HU.out HDA.out (by omega) (by omega) (by omega) rfl (by omega) hv hP)
          clear hv
          go_enter Tryd.func3, Tryd.ntmps3
          go_wp2_with fail
          refine (HG.out _ HK.out.1).mono ?_
          rintro r w1 ⟨rfl, hb⟩
          have hk := HK.out.keep hb
          replace HK := Lib.hid hk
          clear hk hb
          obtain ⟨⟨⟨c00, c01, c02⟩, -⟩, -⟩ := Sd.of HK.out
          go_wp2_with fail
          refine (HR.out _ HK.out.1).mono ?_
          rintro r w2 ⟨rfl, hb⟩
          clear c00 c01 c02
          have hk := HK.out.keep hb
          replace HK := Lib.hid hk
          clear hk hb
          replace HK := Lib.hid (show Kept3 w [(w.heap.size, .bool nd, .string sd, .int .i64 (ed)), (w2.heap.size, .bool n', .string s', .int .i64 (e'))] (w2.alloc (.cells #[.bool n', .string s', .int .i64 (e')] 23)) from HK.out.grow _ _ _ _)
          obtain ⟨⟨⟨c00, c01, c02⟩, ⟨c10, c11, c12⟩, -⟩, -⟩ := Sd.of HK.out
          go_wp2_with fail
          refine (HMAY.out _).mono ?_
          rintro r w3 ⟨rfl, hb⟩
          clear c00 c01 c02 c10 c11 c12
          have hk := HK.out.keep hb
          replace HK := Lib.hid hk
          clear hk hb
          obtain ⟨⟨⟨c00, c01, c02⟩, ⟨c10, c11, c12⟩, -⟩, -⟩ := Sd.of HK.out
          go_wp2_with fail
          refine (HQ.out _ HK.out.1).mono ?_
          rintro r w4 ⟨rfl, hb⟩
          clear c00 c01 c02 c10 c11 c12
          have hk := HK.out.keep hb
          replace HK := Lib.hid hk
          clear hk hb
          replace HK := Lib.hid (show Kept3 w [(w.heap.size, .bool nd, .string sd, .int .i64 (ed)), (w2.heap.size, .bool n', .string s', .int .i64 (e')), (w4.heap.size, .bool n', .string s', .int .i64 (e'))] (w4.alloc (.cells #[.bool n', .string s', .int .i64 (e')] 23)) from HK.out.grow _ _ _ _)
          obtain ⟨⟨⟨c00, c01, c02⟩, ⟨c10, c11, c12⟩, ⟨c20, c21, c22⟩, -⟩, -⟩ := Sd.of HK.out
          go_wp2_with fail
          refine (answers10_c _ HK.out.1).mono ?_
          rintro r w5 ⟨rfl, hb⟩
          clear c00 c01 c02 c10 c11 c12 c20 c21 c22
          have hk := HK.out.keep hb
          replace HK := Lib.hid hk
          clear hk hb
          obtain ⟨⟨⟨c00, c01, c02⟩, ⟨c10, c11, c12⟩, ⟨c20, c21, c22⟩, -⟩, -⟩ := Sd.of HK.out
          go_wp2
          go_ret
          exact ⟨rfl, HK.out.2.1⟩
end Go.Proofs.YtekanlcfgfllcaaDoor
