/-
  IncTens: the walk.
-/
import Derived.Test.YtekanlcfgfllcaaDoorIn10
set_option maxRecDepth 100000
namespace Go.Proofs.YtekanlcfgfllcaaDoor
open Go.RowKit
attribute [local go_sem] dec_field0 dec_field1 dec_field2 in
set_option maxHeartbeats 16000000 in
set_option maxRecDepth 100000 in
theorem walk_incTens (m : Int) (nd : Bool) (sd : ByteArray) (ed : Int) (t : ByteArray) (a : Int) (z : Int) (w : World) (hm : -9223372036854775808 ≤ m ∧ m ≤ 9223372036854775807) (hd : sd.size ≤ maxLen) (ht : t.size ≤ maxLen) (ha : -9223372036854775808 ≤ a ∧ a ≤ 9223372036854775807) (hz : 0 ≤ z ∧ z ≤ 255) (hP : Pw w) :
    Calls Tryd.prog 6 #[.int .i64 m, .agg #[.bool nd, .string sd, .int .i64 ed], .string t, .int .i64 a, .int .u8 z] w fun e w' => e = .returned (.bool true) ∧ Below w.heap.size w w' := by
  have HK := Lib.hid (kept_one w (.bool nd) (.string sd) (.int .i64 ed) 23 hP)
  clear hP
  have HG := Lib.hid (fun w hP => good10_c nd sd ed a w hd hP)
  have HMAY := Lib.hid (fun w => may10_c t w ht)
  rcases hg : g10 sd ed a with _ | _
  · rw [hg] at HG
    clear hg
    go_enter Tryd.func6, Tryd.ntmps6
    go_wp2_with fail
    refine (HG.out _ HK.out.1).mono ?_
    rintro r w1 ⟨rfl, hb⟩
    have hk := HK.out.keep hb
    replace HK := Lib.hid hk
    clear hk hb
    obtain ⟨⟨⟨c00, c01, c02⟩, -⟩, -⟩ := Sd.of HK.out
    go_wp2_with fail
    refine (answers10_c _ HK.out.1).mono ?_
    rintro r w2 ⟨rfl, hb⟩
    clear c00 c01 c02
    have hk := HK.out.keep hb
    replace HK := Lib.hid hk
    clear hk hb
    obtain ⟨⟨⟨c00, c01, c02⟩, -⟩, -⟩ := Sd.of HK.out
    go_wp2
    go_ret
    exact ⟨rfl, HK.out.2.1⟩
  · rw [hg] at HG
    obtain ⟨hf, ha1, ha2, he1, he2⟩ := g10_true hg
    obtain ⟨X, hu, hl⟩ := DU.of_fine (k := -100) hf (by omega) (by omega) (by omega)
    have HU := Lib.hid hu
    clear hg hf hu
    rcases hst : stepB t with _ | _
    · rw [hst] at HMAY
      clear hst
      go_enter Tryd.func6, Tryd.ntmps6
      go_wp2_with fail
      refine (HG.out _ HK.out.1).mono ?_
      rintro r w1 ⟨rfl, hb⟩
      have hk := HK.out.keep hb
      replace HK := Lib.hid hk
      clear hk hb
      obtain ⟨⟨⟨c00, c01, c02⟩, -⟩, -⟩ := Sd.of HK.out
      go_wp2_with fail
      refine (HMAY.out _).mono ?_
      rintro r w2 ⟨rfl, hb⟩
      clear c00 c01 c02
      have hk := HK.out.keep hb
      replace HK := Lib.hid hk
      clear hk hb
      obtain ⟨⟨⟨c00, c01, c02⟩, -⟩, -⟩ := Sd.of HK.out
      go_wp2_with fail
      refine (answers10_c _ HK.out.1).mono ?_
      rintro r w3 ⟨rfl, hb⟩
      clear c00 c01 c02
      have hk := HK.out.keep hb
      replace HK := Lib.hid hk
      clear hk hb
      obtain ⟨⟨⟨c00, c01, c02⟩, -⟩, -⟩ := Sd.of HK.out
      go_wp2
      go_ret
      exact ⟨rfl, HK.out.2.1⟩
    · rw [hst] at HMAY
      obtain ⟨hda, hS0, hSl⟩ := step_da hst
      obtain ⟨S, hS⟩ : ∃ S, dval (bdigs t) = S := ⟨_, rfl⟩
      rw [hS] at hda hS0 hSl
      have HST := Lib.hid hst
      have HSV := Lib.hid hS
      have HDA := Lib.hid hda
      have HT := Lib.hid ht
      have hWl := decs_pow_le S (a - -100).toNat _ hSl
      clear hst hS hda ht
      by_cases h30 : 30 < t.size
      · have h30b : (30 : Int) < ((t.size : Nat) : Int) := by omega
        go_enter Tryd.func6, Tryd.ntmps6
        go_wp2_with fail
        refine (HG.out _ HK.out.1).mono ?_
        rintro r w1 ⟨rfl, hb⟩
        have hk := HK.out.keep hb
        replace HK := Lib.hid hk
        clear hk hb
        obtain ⟨⟨⟨c00, c01, c02⟩, -⟩, -⟩ := Sd.of HK.out
        go_wp2_with fail
        refine (HMAY.out _).mono ?_
        rintro r w2 ⟨rfl, hb⟩
        clear c00 c01 c02
        have hk := HK.out.keep hb
        replace HK := Lib.hid hk
        clear hk hb
        obtain ⟨⟨⟨c00, c01, c02⟩, -⟩, -⟩ := Sd.of HK.out
        go_wp2_with fail
        refine (answers10_c _ HK.out.1).mono ?_
        rintro r w3 ⟨rfl, hb⟩
        clear c00 c01 c02
        have hk := HK.out.keep hb
        replace HK := Lib.hid hk
        clear hk hb
        obtain ⟨⟨⟨c00, c01, c02⟩, -⟩, -⟩ := Sd.of HK.out
        go_wp2
        go_ret
        exact ⟨rfl, HK.out.2.1⟩
      · by_cases hmw : m < 0 ∨ 7 < m
        · have h30b : ¬ (30 : Int) < ((t.size : Nat) : Int) := by omega
          obtain ⟨K, hK⟩ : ∃ K : Nat, z.tmod 9 = (K : Int) := ⟨(z.tmod 9).toNat, by rw [Int.tmod_eq_emod_of_nonneg (by omega)]; omega⟩
          have hK8 : K ≤ 8 := by rw [Int.tmod_eq_emod_of_nonneg (by omega)] at hK; omega
          have hwK : IntKind.i64.wrap (K : Int) = (K : Int) := IntWalk.i64_in _ (by omega)
          have hpt : t.size ≤ 30 := by omega
          obtain ⟨hpst, hpv⟩ := padR_step (i := K) HST.out (by omega)
          rw [HSV.out] at hpv
          have HPS := Lib.hid hpst
          have HPV := Lib.hid hpv
          have hwa : IntKind.i64.wrap (a + K) = a + K := IntWalk.i64_in _ (by omega)
          clear hpst hpv
          have HR := Lib.hid (fun (w : World) (hP : Pw w) => incRound_no m nd sd ed (padR t K) a w (.inr (isWay_false (by omega))) (by unfold maxLen; have := padR_size t K; omega) hP)
          have HQ := Lib.hid (fun (w : World) (hP : Pw w) => incRound_no m nd sd ed t (a + K) w (.inr (isWay_false (by omega))) HT.out hP)
          go_enter Tryd.func6, Tryd.ntmps6
          go_wp2_with fail
          refine (HG.out _ HK.out.1).mono ?_
          rintro r w1 ⟨rfl, hb⟩
          have hk := HK.out.keep hb
          replace HK := Lib.hid hk
          clear hk hb
          obtain ⟨⟨⟨c00, c01, c02⟩, -⟩, -⟩ := Sd.of HK.out
          go_wp2_with fail
          refine (HMAY.out _).mono ?_
          rintro r w2 ⟨rfl, hb⟩
          clear c00 c01 c02
          have hk := HK.out.keep hb
          replace HK := Lib.hid hk
          clear hk hb
          obtain ⟨⟨⟨c00, c01, c02⟩, -⟩, -⟩ := Sd.of HK.out
          go_wp2
          go_loop [12, 13] (fun v i => ∃ j : Nat, j ≤ K ∧ i = .int .i64 (j : Int) ∧ v = .string (padR t j)) (fun _ i => K - (intOf i).toNat)
          case atStart => exact ⟨0, Nat.zero_le _, rfl, rfl⟩
          case round =>
            obtain ⟨j, hj, rfl, rfl⟩ := hrel
            by_cases hlt : j < K
            · have hps : (padR t j).size ≤ 100 := by have := padR_size t j; omega
              go_wp2
              go_round
              case rel => exact ⟨j + 1, by omega, by go_num, rfl⟩
              case measure => simp [intOf]; omega
            · obtain rfl : j = K := by omega
              clear hK8
              go_wp2_with fail
              refine (HR.out _ HK.out.1).mono ?_
              rintro r w3 ⟨rfl, hb⟩
              clear c00 c01 c02
              have hk := HK.out.keep hb
              replace HK := Lib.hid hk
              clear hk hb
              replace HK := Lib.hid (show Kept3 w [(w.heap.size, .bool nd, .string sd, .int .i64 (ed)), (w3.heap.size, .bool false, .string ⟨#[]⟩, .int .i64 (0))] (w3.alloc (.cells #[.bool false, .string ⟨#[]⟩, .int .i64 (0)] 23)) from HK.out.grow _ _ _ _)
              obtain ⟨⟨⟨c00, c01, c02⟩, ⟨c10, c11, c12⟩, -⟩, -⟩ := Sd.of HK.out
              go_wp2_with fail
              refine (HQ.out _ HK.out.1).mono ?_
              rintro r w4 ⟨rfl, hb⟩
              clear c00 c01 c02 c10 c11 c12
              have hk := HK.out.keep hb
              replace HK := Lib.hid hk
              clear hk hb
              replace HK := Lib.hid (show Kept3 w [(w.heap.size, .bool nd, .string sd, .int .i64 (ed)), (w3.heap.size, .bool false, .string ⟨#[]⟩, .int .i64 (0)), (w4.heap.size, .bool false, .string ⟨#[]⟩, .int .i64 (0))] (w4.alloc (.cells #[.bool false, .string ⟨#[]⟩, .int .i64 (0)] 23)) from HK.out.grow _ _ _ _)
              obtain ⟨⟨⟨c00, c01, c02⟩, ⟨c10, c11, c12⟩, ⟨c20, c21, c22⟩, -⟩, -⟩ := Sd.of HK.out
              go_wp2_with fail
              refine (answers10_c _ HK.out.1).mono ?_
              rintro r w5 ⟨rfl, hb⟩
              clear c00 c01 c02 c10 c11 c12 c20 c21 c22
              have hk := HK.out.keep hb
              replace HK := Lib.hid hk
              clear hk hb
              obtain ⟨⟨⟨c00, c01, c02⟩, ⟨c10, c11, c12⟩, ⟨c20, c21, c22⟩, -⟩, -⟩ := Sd.of HK.out
              go_wp2
              go_ret
              exact ⟨rfl, HK.out.2.1⟩
        · have h30b : ¬ (30 : Int) < ((t.size : Nat) : Int) := by omega
          obtain ⟨K, hK⟩ : ∃ K : Nat, z.tmod 9 = (K : Int) := ⟨(z.tmod 9).toNat, by rw [Int.tmod_eq_emod_of_nonneg (by omega)]; omega⟩
          have hK8 : K ≤ 8 := by rw [Int.tmod_eq_emod_of_nonneg (by omega)] at hK; omega
          have hwK : IntKind.i64.wrap (K : Int) = (K : Int) := IntWalk.i64_in _ (by omega)
          have hpt : t.size ≤ 30 := by omega
          obtain ⟨hpst, hpv⟩ := padR_step (i := K) HST.out (by omega)
          rw [HSV.out] at hpv
          have HPS := Lib.hid hpst
          have HPV := Lib.hid hpv
          have hwa : IntKind.i64.wrap (a + K) = a + K := IntWalk.i64_in _ (by omega)
          clear hpst hpv
          have hWl2 := decs_pow_le S (a + K - -100).toNat _ hSl
          have hW2 : S * 10 ^ K * 10 ^ (a - -100).toNat = S * 10 ^ (a + K - -100).toNat := by rw [Nat.mul_assoc, ← Nat.pow_add]; congr 2; omega
          obtain ⟨n', s', e', c, hv⟩ := rndV_shape m nd X (S * 10 ^ (a + K - -100).toNat) (-100)
          have HR := Lib.hid (fun (w : World) (hP : Pw w) => incRound_u (m := m) (n := nd) (p := a) (t := (padR t K)) (v := _) (w := w) (isWay_true (by omega) (by omega)) HU.out HPS.out HPV.out (by unfold maxLen; have := padR_size t K; omega) (by omega) (by omega) hW2 (by omega) (hv) hP)
          have HQ := Lib.hid (fun (w : World) (hP : Pw w) => incRound_u (m := m) (n := nd) (p := (a + K)) (t := t) (v := _) (w := w) (isWay_true (by omega) (by omega)) HU.out HST.out HSV.out HT.out (by omega) (by omega) rfl (by omega) (hv) hP)
          clear hv hW2
          go_enter Tryd.func6, Tryd.ntmps6
          go_wp2_with fail
          refine (HG.out _ HK.out.1).mono ?_
          rintro r w1 ⟨rfl, hb⟩
          have hk := HK.out.keep hb
          replace HK := Lib.hid hk
          clear hk hb
          obtain ⟨⟨⟨c00, c01, c02⟩, -⟩, -⟩ := Sd.of HK.out
          go_wp2_with fail
          refine (HMAY.out _).mono ?_
          rintro r w2 ⟨rfl, hb⟩
          clear c00 c01 c02
          have hk := HK.out.keep hb
          replace HK := Lib.hid hk
          clear hk hb
          obtain ⟨⟨⟨c00, c01, c02⟩, -⟩, -⟩ := Sd.of HK.out
          go_wp2
          go_loop [12, 13] (fun v i => ∃ j : Nat, j ≤ K ∧ i = .int .i64 (j : Int) ∧ v = .string (padR t j)) (fun _ i => K - (intOf i).toNat)
          case atStart => exact ⟨0, Nat.zero_le _, rfl, rfl⟩
          case round =>
            obtain ⟨j, hj, rfl, rfl⟩ := hrel
            by_cases hlt : j < K
            · have hps : (padR t j).size ≤ 100 := by have := padR_size t j; omega
              go_wp2
              go_round
              case rel => exact ⟨j + 1, by omega, by go_num, rfl⟩
              case measure => simp [intOf]; omega
            · obtain rfl : j = K := by omega
              clear hK8
              go_wp2_with fail
              refine (HR.out _ HK.out.1).mono ?_
              rintro r w3 ⟨rfl, hb⟩
              clear c00 c01 c02
              have hk := HK.out.keep hb
              replace HK := Lib.hid hk
              clear hk hb
              replace HK := Lib.hid (show Kept3 w [(w.heap.size, .bool nd, .string sd, .int .i64 (ed)), (w3.heap.size, .bool n', .string s', .int .i64 (e'))] (w3.alloc (.cells #[.bool n', .string s', .int .i64 (e')] 23)) from HK.out.grow _ _ _ _)
              obtain ⟨⟨⟨c00, c01, c02⟩, ⟨c10, c11, c12⟩, -⟩, -⟩ := Sd.of HK.out
              go_wp2_with fail
              refine (HQ.out _ HK.out.1).mono ?_
              rintro r w4 ⟨rfl, hb⟩
              clear c00 c01 c02 c10 c11 c12
              have hk := HK.out.keep hb
              replace HK := Lib.hid hk
              clear hk hb
              replace HK := Lib.hid (show Kept3 w [(w.heap.size, .bool nd, .string sd, .int .i64 (ed)), (w3.heap.size, .bool n', .string s', .int .i64 (e')), (w4.heap.size, .bool n', .string s', .int .i64 (e'))] (w4.alloc (.cells #[.bool n', .string s', .int .i64 (e')] 23)) from HK.out.grow _ _ _ _)
              obtain ⟨⟨⟨c00, c01, c02⟩, ⟨c10, c11, c12⟩, ⟨c20, c21, c22⟩, -⟩, -⟩ := Sd.of HK.out
              go_wp2_with fail
              refine (answers10_c _ HK.out.1).mono ?_
              rintro r w5 ⟨rfl, hb⟩
              clear c00 c01 c02 c10 c11 c12 c20 c21 c22
              have hk := HK.out.keep hb
              replace HK := Lib.hid hk
              clear hk hb
              obtain ⟨⟨⟨c00, c01, c02⟩, ⟨c10, c11, c12⟩, ⟨c20, c21, c22⟩, -⟩, -⟩ := Sd.of HK.out
              go_wp2
              go_ret
              exact ⟨rfl, HK.out.2.1⟩
end Go.Proofs.YtekanlcfgfllcaaDoor
