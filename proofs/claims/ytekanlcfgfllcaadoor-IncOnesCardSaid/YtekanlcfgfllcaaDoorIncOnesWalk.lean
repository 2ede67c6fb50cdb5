/-
  IncOnes: the walk.
-/
import Derived.Test.YtekanlcfgfllcaaDoorIn10
set_option maxRecDepth 100000
namespace Go.Proofs.YtekanlcfgfllcaaDoor
open Go.RowKit
attribute [local go_sem] dec_field0 dec_field1 dec_field2 in
set_option maxHeartbeats 16000000 in
set_option maxRecDepth 100000 in
theorem walk_incOnes (m : Int) (nd : Bool) (sd : ByteArray) (ed : Int) (a : Int) (z : Int) (w : World) (hm : -9223372036854775808 ≤ m ∧ m ≤ 9223372036854775807) (hd : sd.size ≤ maxLen) (ha : -9223372036854775808 ≤ a ∧ a ≤ 9223372036854775807) (hz : 0 ≤ z ∧ z ≤ 255) (hP : Pw w) :
    Calls Tryd.prog 7 #[.int .i64 m, .agg #[.bool nd, .string sd, .int .i64 ed], .int .i64 a, .int .u8 z] w fun e w' => e = .returned (.bool true) ∧ Below w.heap.size w w' := by
  have HK := Lib.hid (kept_one w (.bool nd) (.string sd) (.int .i64 ed) 23 hP)
  clear hP
  have HG := Lib.hid (fun w hP => good10_c nd sd ed a w hd hP)
  rcases hg : g10 sd ed a with _ | _
  · rw [hg] at HG
    clear hg
    go_enter Tryd.func7, Tryd.ntmps7
    go_wp2_with fail
    refine (HG.out _ HK.out.1).mono ?_
    rintro r w1 ⟨rfl, hb⟩
    have hk := HK.out.keep hb
    replace HK := Lib.hid hk
    clear hk hb
    obtain ⟨⟨⟨c00, c01, c02⟩, -⟩, -⟩ := Sd.of HK.out
    go_wp2_with fail
    refine (answers10_c _ HK.out.1).mono ?_
    rintro r w2 ⟨rfl, hb⟩
    clear c00 c01 c02
    have hk := HK.out.keep hb
    replace HK := Lib.hid hk
    clear hk hb
    obtain ⟨⟨⟨c00, c01, c02⟩, -⟩, -⟩ := Sd.of HK.out
    go_wp2
    go_ret
    exact ⟨rfl, HK.out.2.1⟩
  · rw [hg] at HG
    obtain ⟨hf, ha1, ha2, he1, he2⟩ := g10_true hg
    obtain ⟨X, hu, hl⟩ := DU.of_fine (k := -100) hf (by omega) (by omega) (by omega)
    have HU := Lib.hid hu
    clear hg hf hu
    by_cases hmw : m < 0 ∨ 7 < m
    · obtain ⟨K, hK⟩ : ∃ K : Nat, z.tmod 9 = (K : Int) := ⟨(z.tmod 9).toNat, by rw [Int.tmod_eq_emod_of_nonneg (by omega)]; omega⟩
      have hK8 : K ≤ 8 := by rw [Int.tmod_eq_emod_of_nonneg (by omega)] at hK; omega
      have hwK : IntKind.i64.wrap (K : Int) = (K : Int) := IntWalk.i64_in _ (by omega)
      obtain ⟨hpst, hpv⟩ := padL_step (i := K) (by omega)
      have HPS := Lib.hid hpst
      have HPV := Lib.hid hpv
      have hpl := pow_len (a - -100).toNat
      clear hpst hpv
      have HR := Lib.hid (fun (w : World) (hP : Pw w) => incRound_no m nd sd ed (padL K) a w (.inr (isWay_false (by omega))) (by unfold maxLen; have := padL_size K; omega) hP)
      have HQ := Lib.hid (fun (w : World) (_ : Pw w) => placeRound_no m nd sd ed a w (isWay_false (by omega)))
      go_enter Tryd.func7, Tryd.ntmps7
      go_wp2_with fail
      refine (HG.out _ HK.out.1).mono ?_
      rintro r w1 ⟨rfl, hb⟩
      have hk := HK.out.keep hb
      replace HK := Lib.hid hk
      clear hk hb
      obtain ⟨⟨⟨c00, c01, c02⟩, -⟩, -⟩ := Sd.of HK.out
      go_wp2
      go_loop [9, 10] (fun v i => ∃ j : Nat, j ≤ K ∧ i = .int .i64 (j : Int) ∧ v = .string (padL j)) (fun _ i => K - (intOf i).toNat)
      case atStart => exact ⟨0, Nat.zero_le _, rfl, rfl⟩
      case round =>
        obtain ⟨j, hj, rfl, rfl⟩ := hrel
        by_cases hlt : j < K
        · have hps : (padL j).size ≤ 100 := by have := padL_size j; omega
          go_wp2
          go_round
          case rel => exact ⟨j + 1, by omega, by go_num, rfl⟩
          case measure => simp [intOf]; omega
        · obtain rfl : j = K := by omega
          clear hK8
          go_wp2_with fail
          refine (HR.out _ HK.out.1).mono ?_
          rintro r w2 ⟨rfl, hb⟩
          clear c00 c01 c02
          have hk := HK.out.keep hb
          replace HK := Lib.hid hk
          clear hk hb
          replace HK := Lib.hid (show Kept3 w [(w.heap.size, .bool nd, .string sd, .int .i64 (ed)), (w2.heap.size, .bool false, .string ⟨#[]⟩, .int .i64 (0))] (w2.alloc (.cells #[.bool false, .string ⟨#[]⟩, .int .i64 (0)] 23)) from HK.out.grow _ _ _ _)
          obtain ⟨⟨⟨c00, c01, c02⟩, ⟨c10, c11, c12⟩, -⟩, -⟩ := Sd.of HK.out
          go_wp2_with fail
          refine (HQ.out _ HK.out.1).mono ?_
          rintro r w3 ⟨rfl, hb⟩
          clear c00 c01 c02 c10 c11 c12
          have hk := HK.out.keep hb
          replace HK := Lib.hid hk
          clear hk hb
          replace HK := Lib.hid (show Kept3 w [(w.heap.size, .bool nd, .string sd, .int .i64 (ed)), (w2.heap.size, .bool false, .string ⟨#[]⟩, .int .i64 (0)), (w3.heap.size, .bool false, .string ⟨#[]⟩, .int .i64 (0))] (w3.alloc (.cells #[.bool false, .string ⟨#[]⟩, .int .i64 (0)] 23)) from HK.out.grow _ _ _ _)
          obtain ⟨⟨⟨c00, c01, c02⟩, ⟨c10, c11, c12⟩, ⟨c20, c21, c22⟩, -⟩, -⟩ := Sd.of HK.out
          go_wp2_with fail
          refine (answers10_c _ HK.out.1).mono ?_
          rintro r w4 ⟨rfl, hb⟩
          clear c00 c01 c02 c10 c11 c12 c20 c21 c22
          have hk := HK.out.keep hb
          replace HK := Lib.hid hk
          clear hk hb
          obtain ⟨⟨⟨c00, c01, c02⟩, ⟨c10, c11, c12⟩, ⟨c20, c21, c22⟩, -⟩, -⟩ := Sd.of HK.out
          go_wp2
          go_ret
          exact ⟨rfl, HK.out.2.1⟩
    · obtain ⟨K, hK⟩ : ∃ K : Nat, z.tmod 9 = (K : Int) := ⟨(z.tmod 9).toNat, by rw [Int.tmod_eq_emod_of_nonneg (by omega)]; omega⟩
      have hK8 : K ≤ 8 := by rw [Int.tmod_eq_emod_of_nonneg (by omega)] at hK; omega
      have hwK : IntKind.i64.wrap (K : Int) = (K : Int) := IntWalk.i64_in _ (by omega)
      obtain ⟨hpst, hpv⟩ := padL_step (i := K) (by omega)
      have HPS := Lib.hid hpst
      have HPV := Lib.hid hpv
      have hpl := pow_len (a - -100).toNat
      clear hpst hpv
      obtain ⟨n', s', e', c, hv⟩ := rndV_shape m nd X (10 ^ (a - -100).toNat) (-100)
      have HR := Lib.hid (fun (w : World) (hP : Pw w) => incRound_u (m := m) (n := nd) (p := a) (t := (padL K)) (v := _) (w := w) (isWay_true (by omega) (by omega)) HU.out HPS.out HPV.out (by unfold maxLen; have := padL_size K; omega) (by omega) (by omega) (Nat.one_mul _) (by omega) (hv) hP)
      have HQ := Lib.hid (fun (w : World) (hP : Pw w) => placeRound_u (m := m) (p := a) (n := nd) (w := w) (isWay_true (by omega) (by omega)) HU.out (by omega) (by omega) rfl hv hP)
      clear hv
      go_enter Tryd.func7, Tryd.ntmps7
      go_wp2_with fail
      refine (HG.out _ HK.out.1).mono ?_
      rintro r w1 ⟨rfl, hb⟩
      have hk := HK.out.keep hb
      replace HK := Lib.hid hk
      clear hk hb
      obtain ⟨⟨⟨c00, c01, c02⟩, -⟩, -⟩ := Sd.of HK.out
      go_wp2
      go_loop [9, 10] (fun v i => ∃ j : Nat, j ≤ K ∧ i = .int .i64 (j : Int) ∧ v = .string (padL j)) (fun _ i => K - (intOf i).toNat)
      case atStart => exact ⟨0, Nat.zero_le _, rfl, rfl⟩
      case round =>
        obtain ⟨j, hj, rfl, rfl⟩ := hrel
        by_cases hlt : j < K
        · have hps : (padL j).size ≤ 100 := by have := padL_size j; omega
          go_wp2
          go_round
          case rel => exact ⟨j + 1, by omega, by go_num, rfl⟩
          case measure => simp [intOf]; omega
        · obtain rfl : j = K := by omega
          clear hK8
          go_wp2_with fail
          refine (HR.out _ HK.out.1).mono ?_
          rintro r w2 ⟨rfl, hb⟩
          clear c00 c01 c02
          have hk := HK.out.keep hb
          replace HK := Lib.hid hk
          clear hk hb
          replace HK := Lib.hid (show Kept3 w [(w.heap.size, .bool nd, .string sd, .int .i64 (ed)), (w2.heap.size, .bool n', .string s', .int .i64 (e'))] (w2.alloc (.cells #[.bool n', .string s', .int .i64 (e')] 23)) from HK.out.grow _ _ _ _)
          obtain ⟨⟨⟨c00, c01, c02⟩, ⟨c10, c11, c12⟩, -⟩, -⟩ := Sd.of HK.out
          go_wp2_with fail
          refine (HQ.out _ HK.out.1).mono ?_
          rintro r w3 ⟨rfl, hb⟩
          clear c00 c01 c02 c10 c11 c12
          have hk := HK.out.keep hb
          replace HK := Lib.hid hk
          clear hk hb
          replace HK := Lib.hid (show Kept3 w [(w.heap.size, .bool nd, .string sd, .int .i64 (ed)), (w2.heap.size, .bool n', .string s', .int .i64 (e')), (w3.heap.size, .bool n', .string s', .int .i64 (e'))] (w3.alloc (.cells #[.bool n', .string s', .int .i64 (e')] 23)) from HK.out.grow _ _ _ _)
          obtain ⟨⟨⟨c00, c01, c02⟩, ⟨c10, c11, c12⟩, ⟨c20, c21, c22⟩, -⟩, -⟩ := Sd.of HK.out
          go_wp2_with fail
          refine (answers10_c _ HK.out.1).mono ?_
          rintro r w4 ⟨rfl, hb⟩
          clear c00 c01 c02 c10 c11 c12 c20 c21 c22
          have hk := HK.out.keep hb
          replace HK := Lib.hid hk
          clear hk hb
          obtain ⟨⟨⟨c00, c01, c02⟩, ⟨c10, c11, c12⟩, ⟨c20, c21, c22⟩, -⟩, -⟩ := Sd.of HK.out
          go_wp2
          go_ret
          exact ⟨rfl, HK.out.2.1⟩
end Go.Proofs.YtekanlcfgfllcaaDoor
