/-
  PlaceTurned: the walk.
-/
import Derived.Test.YtonanpnacoegcaaDoorU8
set_option maxRecDepth 100000
namespace Go.Proofs.YtonanpnacoegcaaDoor
open Go.RowKit
attribute [local go_sem] dec_field0 dec_field1 dec_field2 in
set_option maxHeartbeats 16000000 in
set_option maxRecDepth 100000 in
theorem walk_placeTurned (m : Int) (nd : Bool) (sd : ByteArray) (ed : Int) (a : Int) (w : World) (hm : -9223372036854775808 ≤ m ∧ m ≤ 9223372036854775807) (hd : sd.size ≤ maxLen) (ha : -9223372036854775808 ≤ a ∧ a ≤ 9223372036854775807) (hP : Pw w) :
    Calls Tryd.prog 7 #[.int .i64 m, .agg #[.bool nd, .string sd, .int .i64 ed], .int .i64 a] w fun e w' => e = .returned (.bool true) ∧ Below w.heap.size w w' := by
  have HK := Lib.hid (kept_one w (.bool nd) (.string sd) (.int .i64 ed) 23 hP)
  clear hP
  have HG := Lib.hid (fun w hP => good08_c nd sd ed a w hd hP)
  rcases hg : g8 sd ed a with _ | _
  · rw [hg] at HG
    clear hg
    go_enter Tryd.func7, Tryd.ntmps7
    go_wp2_with fail
    refine (HG.out _ HK.out.1).mono ?_
    rintro r w1 ⟨rfl, hb⟩
    have hk := HK.out.keep hb
    replace HK := Lib.hid hk
    clear hk hb
    obtain ⟨⟨⟨c00, c01, c02⟩, -⟩, -⟩ := Sd.of HK.out
    go_wp2_with fail
    refine (answers08_c _ HK.out.1).mono ?_
    rintro r w2 ⟨rfl, hb⟩
    clear c00 c01 c02
    have hk := HK.out.keep hb
    replace HK := Lib.hid hk
    clear hk hb
    obtain ⟨⟨⟨c00, c01, c02⟩, -⟩, -⟩ := Sd.of HK.out
    go_wp2
    go_ret
    exact ⟨rfl, HK.out.2.1⟩
  · rw [hg] at HG
    obtain ⟨hf, ha1, ha2, he1, he2⟩ := g8_true hg
    obtain ⟨X, hu, hl⟩ := DU.of_fine (k := -400) hf (by omega) (by omega) (by omega)
    have HU := Lib.hid hu
    clear hg hf hu
    have HWP := Lib.hid (show 0 < (10 ^ (a - -400).toNat) from pow_pos10 _)
    have HTU := Lib.hid (fun w => ref5Turn_c nd sd ed w)
    by_cases hm0 : m = 0
    · subst hm0
      have HRN := Lib.hid (rndN_turn 0 nd X (10 ^ (a - -400).toNat))
      obtain ⟨R, hR⟩ : ∃ R, rndN 0 nd X (10 ^ (a - -400).toNat) = R := ⟨_, rfl⟩
      have hR2 : rndN 1 (!nd) X (10 ^ (a - -400).toNat) = R := by rw [← hR]; exact HRN.out
      have HR := Lib.hid (fun (w : World) (hP : Pw w) => placeRound_u (m := 0) (p := a) (n := nd) (w := w) (v := .tuple #[.agg #[.bool nd, .string (nstr R), .int .i64 (nexp R (-400))], .int .i64 0]) (isWay_true (by omega) (by omega)) HU.out (by omega) (by omega) rfl (by rw [rndV_of (by omega), hR]) hP)
      have HQ := Lib.hid (fun (w : World) (hP : Pw w) => placeRound_u (m := 1) (p := a) (n := (!nd)) (w := w) (v := .tuple #[.agg #[.bool (!nd), .string (nstr R), .int .i64 (nexp R (-400))], .int .i64 0]) (isWay_true (by omega) (by omega)) HU.out (by omega) (by omega) rfl (by rw [rndV_of (by omega), hR2]) hP)
      clear hR hR2
      go_enter Tryd.func7, Tryd.ntmps7
      go_wp2_with fail
      refine (HG.out _ HK.out.1).mono ?_
      rintro r w1 ⟨rfl, hb⟩
      have hk := HK.out.keep hb
      replace HK := Lib.hid hk
      clear hk hb
      obtain ⟨⟨⟨c00, c01, c02⟩, -⟩, -⟩ := Sd.of HK.out
      go_wp2_with fail
      refine (HR.out _ HK.out.1).mono ?_
      rintro r w2 ⟨rfl, hb⟩
      clear c00 c01 c02
      have hk := HK.out.keep hb
      replace HK := Lib.hid hk
      clear hk hb
      replace HK := Lib.hid (show Kept3 w [(w.heap.size, .bool nd, .string sd, .int .i64 (ed)), (w2.heap.size, .bool nd, .string (nstr R), .int .i64 (nexp R (-400)))] (w2.alloc (.cells #[.bool nd, .string (nstr R), .int .i64 (nexp R (-400))] 23)) from HK.out.grow _ _ _ _)
      obtain ⟨⟨⟨c00, c01, c02⟩, ⟨c10, c11, c12⟩, -⟩, -⟩ := Sd.of HK.out
      go_wp2_with fail
      refine (HTU.out _).mono ?_
      rintro r w3 ⟨rfl, hb⟩
      clear c00 c01 c02 c10 c11 c12
      have hk := HK.out.keep hb
      replace HK := Lib.hid hk
      clear hk hb
      obtain ⟨⟨⟨c00, c01, c02⟩, ⟨c10, c11, c12⟩, -⟩, -⟩ := Sd.of HK.out
      go_wp2_with fail
      refine (HQ.out _ HK.out.1).mono ?_
      rintro r w4 ⟨rfl, hb⟩
      clear c00 c01 c02 c10 c11 c12
      have hk := HK.out.keep hb
      replace HK := Lib.hid hk
      clear hk hb
      replace HK := Lib.hid (show Kept3 w [(w.heap.size, .bool nd, .string sd, .int .i64 (ed)), (w2.heap.size, .bool nd, .string (nstr R), .int .i64 (nexp R (-400))), (w4.heap.size, .bool (!nd), .string (nstr R), .int .i64 (nexp R (-400)))] (w4.alloc (.cells #[.bool (!nd), .string (nstr R), .int .i64 (nexp R (-400))] 23)) from HK.out.grow _ _ _ _)
      obtain ⟨⟨⟨c00, c01, c02⟩, ⟨c10, c11, c12⟩, ⟨c20, c21, c22⟩, -⟩, -⟩ := Sd.of HK.out
      go_wp2
      clear c00 c01 c02 c10 c11 c12 c20 c21 c22
      have hS : Sd w [(w.heap.size, .bool nd, .string sd, .int .i64 (ed)), (w2.heap.size, .bool nd, .string (nstr R), .int .i64 (nexp R (-400))), (w4.heap.size, .bool (!nd), .string (nstr R), .int .i64 (nexp R (-400)))] _ := .of HK.out.drew
      go_region_held3 (fun w' => ((w'.cell? ⟨w.heap.size, 0, none⟩ = some (.bool nd) ∧ w'.cell? ⟨w.heap.size, 1, none⟩ = some (.string sd) ∧ w'.cell? ⟨w.heap.size, 2, none⟩ = some (.int .i64 (ed))) ∧ (w'.cell? ⟨w2.heap.size, 0, none⟩ = some (.bool nd) ∧ w'.cell? ⟨w2.heap.size, 1, none⟩ = some (.string (nstr R)) ∧ w'.cell? ⟨w2.heap.size, 2, none⟩ = some (.int .i64 (nexp R (-400)))) ∧ (w'.cell? ⟨w4.heap.size, 0, none⟩ = some (.bool (!nd)) ∧ w'.cell? ⟨w4.heap.size, 1, none⟩ = some (.string (nstr R)) ∧ w'.cell? ⟨w4.heap.size, 2, none⟩ = some (.int .i64 (nexp R (-400)))) ∧ True) ∧ Hid (Kept3 w [(w.heap.size, .bool nd, .string sd, .int .i64 (ed)), (w2.heap.size, .bool nd, .string (nstr R), .int .i64 (nexp R (-400))), (w4.heap.size, .bool (!nd), .string (nstr R), .int .i64 (nexp R (-400)))] w')) (assumption)
        (first
          | (go_at_call 10; refine (answers08_c _ (Sd.pw (w0 := w) (L := [(w.heap.size, .bool nd, .string sd, .int .i64 (ed)), (w2.heap.size, .bool nd, .string (nstr R), .int .i64 (nexp R (-400))), (w4.heap.size, .bool (!nd), .string (nstr R), .int .i64 (nexp R (-400)))]) (by assumption))).mono ?_; rintro r wr ⟨rfl, hb⟩; have hS := Sd.keep (w0 := w) (L := [(w.heap.size, .bool nd, .string sd, .int .i64 (ed)), (w2.heap.size, .bool nd, .string (nstr R), .int .i64 (nexp R (-400))), (w4.heap.size, .bool (!nd), .string (nstr R), .int .i64 (nexp R (-400)))]) (by assumption) hb; clear hb)
          | (go_at_call 17; refine (ref5Turn_c _ _ _ _).mono ?_; rintro r wr ⟨rfl, hb⟩; have hS := Sd.keep (w0 := w) (L := [(w.heap.size, .bool nd, .string sd, .int .i64 (ed)), (w2.heap.size, .bool nd, .string (nstr R), .int .i64 (nexp R (-400))), (w4.heap.size, .bool (!nd), .string (nstr R), .int .i64 (nexp R (-400)))]) (by assumption) hb; clear hb))
      rename_i hHeld
      clear hHeld
      have HB := Lib.hid hS.bel
      clear hS
      go_wp2
      go_ret
      exact ⟨rfl, HB.out⟩
    · by_cases hm1 : m = 1
      · subst hm1
        have HRN := Lib.hid (rndN_turn 1 nd X (10 ^ (a - -400).toNat))
        obtain ⟨R, hR⟩ : ∃ R, rndN 1 nd X (10 ^ (a - -400).toNat) = R := ⟨_, rfl⟩
        have hR2 : rndN 0 (!nd) X (10 ^ (a - -400).toNat) = R := by rw [← hR]; exact HRN.out
        have HR := Lib.hid (fun (w : World) (hP : Pw w) => placeRound_u (m := 1) (p := a) (n := nd) (w := w) (v := .tuple #[.agg #[.bool nd, .string (nstr R), .int .i64 (nexp R (-400))], .int .i64 0]) (isWay_true (by omega) (by omega)) HU.out (by omega) (by omega) rfl (by rw [rndV_of (by omega), hR]) hP)
        have HQ := Lib.hid (fun (w : World) (hP : Pw w) => placeRound_u (m := 0) (p := a) (n := (!nd)) (w := w) (v := .tuple #[.agg #[.bool (!nd), .string (nstr R), .int .i64 (nexp R (-400))], .int .i64 0]) (isWay_true (by omega) (by omega)) HU.out (by omega) (by omega) rfl (by rw [rndV_of (by omega), hR2]) hP)
        clear hR hR2
        go_enter Tryd.func7, Tryd.ntmps7
        go_wp2_with fail
        refine (HG.out _ HK.out.1).mono ?_
        rintro r w1 ⟨rfl, hb⟩
        have hk := HK.out.keep hb
        replace HK := Lib.hid hk
        clear hk hb
        obtain ⟨⟨⟨c00, c01, c02⟩, -⟩, -⟩ := Sd.of HK.out
        go_wp2_with fail
        refine (HR.out _ HK.out.1).mono ?_
        rintro r w2 ⟨rfl, hb⟩
        clear c00 c01 c02
        have hk := HK.out.keep hb
        replace HK := Lib.hid hk
        clear hk hb
        replace HK := Lib.hid (show Kept3 w [(w.heap.size, .bool nd, .string sd, .int .i64 (ed)), (w2.heap.size, .bool nd, .string (nstr R), .int .i64 (nexp R (-400)))] (w2.alloc (.cells #[.bool nd, .string (nstr R), .int .i64 (nexp R (-400))] 23)) from HK.out.grow _ _ _ _)
        obtain ⟨⟨⟨c00, c01, c02⟩, ⟨c10, c11, c12⟩, -⟩, -⟩ := Sd.of HK.out
        go_wp2_with fail
        refine (HTU.out _).mono ?_
        rintro r w3 ⟨rfl, hb⟩
        clear c00 c01 c02 c10 c11 c12
        have hk := HK.out.keep hb
        replace HK := Lib.hid hk
        clear hk hb
        obtain ⟨⟨⟨c00, c01, c02⟩, ⟨c10, c11, c12⟩, -⟩, -⟩ := Sd.of HK.out
        go_wp2_with fail
        refine (HQ.out _ HK.out.1).mono ?_
        rintro r w4 ⟨rfl, hb⟩
        clear c00 c01 c02 c10 c11 c12
        have hk := HK.out.keep hb
        replace HK := Lib.hid hk
        clear hk hb
        replace HK := Lib.hid (show Kept3 w [(w.heap.size, .bool nd, .string sd, .int .i64 (ed)), (w2.heap.size, .bool nd, .string (nstr R), .int .i64 (nexp R (-400))), (w4.heap.size, .bool (!nd), .string (nstr R), .int .i64 (nexp R (-400)))] (w4.alloc (.cells #[.bool (!nd), .string (nstr R), .int .i64 (nexp R (-400))] 23)) from HK.out.grow _ _ _ _)
        obtain ⟨⟨⟨c00, c01, c02⟩, ⟨c10, c11, c12⟩, ⟨c20, c21, c22⟩, -⟩, -⟩ := Sd.of HK.out
        go_wp2
        clear c00 c01 c02 c10 c11 c12 c20 c21 c22
        have hS : Sd w [(w.heap.size, .bool nd, .string sd, .int .i64 (ed)), (w2.heap.size, .bool nd, .string (nstr R), .int .i64 (nexp R (-400))), (w4.heap.size, .bool (!nd), .string (nstr R), .int .i64 (nexp R (-400)))] _ := .of HK.out.drew
        go_region_held3 (fun w' => ((w'.cell? ⟨w.heap.size, 0, none⟩ = some (.bool nd) ∧ w'.cell? ⟨w.heap.size, 1, none⟩ = some (.string sd) ∧ w'.cell? ⟨w.heap.size, 2, none⟩ = some (.int .i64 (ed))) ∧ (w'.cell? ⟨w2.heap.size, 0, none⟩ = some (.bool nd) ∧ w'.cell? ⟨w2.heap.size, 1, none⟩ = some (.string (nstr R)) ∧ w'.cell? ⟨w2.heap.size, 2, none⟩ = some (.int .i64 (nexp R (-400)))) ∧ (w'.cell? ⟨w4.heap.size, 0, none⟩ = some (.bool (!nd)) ∧ w'.cell? ⟨w4.heap.size, 1, none⟩ = some (.string (nstr R)) ∧ w'.cell? ⟨w4.heap.size, 2, none⟩ = some (.int .i64 (nexp R (-400)))) ∧ True) ∧ Hid (Kept3 w [(w.heap.size, .bool nd, .string sd, .int .i64 (ed)), (w2.heap.size, .bool nd, .string (nstr R), .int .i64 (nexp R (-400))), (w4.heap.size, .bool (!nd), .string (nstr R), .int .i64 (nexp R (-400)))] w')) (assumption)
          (first
            | (go_at_call 10; refine (answers08_c _ (Sd.pw (w0 := w) (L := [(w.heap.size, .bool nd, .string sd, .int .i64 (ed)), (w2.heap.size, .bool nd, .string (nstr R), .int .i64 (nexp R (-400))), (w4.heap.size, .bool (!nd), .string (nstr R), .int .i64 (nexp R (-400)))]) (by assumption))).mono ?_; rintro r wr ⟨rfl, hb⟩; have hS := Sd.keep (w0 := w) (L := [(w.heap.size, .bool nd, .string sd, .int .i64 (ed)), (w2.heap.size, .bool nd, .string (nstr R), .int .i64 (nexp R (-400))), (w4.heap.size, .bool (!nd), .string (nstr R), .int .i64 (nexp R (-400)))]) (by assumption) hb; clear hb)
            | (go_at_call 17; refine (ref5Turn_c _ _ _ _).mono ?_; rintro r wr ⟨rfl, hb⟩; have hS := Sd.keep (w0 := w) (L := [(w.heap.size, .bool nd, .string sd, .int .i64 (ed)), (w2.heap.size, .bool nd, .string (nstr R), .int .i64 (nexp R (-400))), (w4.heap.size, .bool (!nd), .string (nstr R), .int .i64 (nexp R (-400)))]) (by assumption) hb; clear hb))
        rename_i hHeld
        clear hHeld
        have HB := Lib.hid hS.bel
        clear hS
        go_wp2
        go_ret
        exact ⟨rfl, HB.out⟩
      · by_cases hmw : m < 0 ∨ 7 < m
        · have HR := Lib.hid (fun (w : World) (_ : Pw w) => placeRound_no m nd sd ed a w (isWay_false (by omega)))
          have HQ := Lib.hid (fun (w : World) (_ : Pw w) => placeRound_no m (!nd) sd ed a w (isWay_false (by omega)))
          have hn0 : (m == 0) = false := by simp; omega
          have hn1 : (m == 1) = false := by simp; omega
          go_enter Tryd.func7, Tryd.ntmps7
          go_wp2_with fail
          refine (HG.out _ HK.out.1).mono ?_
          rintro r w1 ⟨rfl, hb⟩
          have hk := HK.out.keep hb
          replace HK := Lib.hid hk
          clear hk hb
          obtain ⟨⟨⟨c00, c01, c02⟩, -⟩, -⟩ := Sd.of HK.out
          go_wp2_with fail
          refine (HR.out _ HK.out.1).mono ?_
          rintro r w2 ⟨rfl, hb⟩
          clear c00 c01 c02
          have hk := HK.out.keep hb
          replace HK := Lib.hid hk
          clear hk hb
          replace HK := Lib.hid (show Kept3 w [(w.heap.size, .bool nd, .string sd, .int .i64 (ed)), (w2.heap.size, .bool false, .string ⟨#[]⟩, .int .i64 (0))] (w2.alloc (.cells #[.bool false, .string ⟨#[]⟩, .int .i64 (0)] 23)) from HK.out.grow _ _ _ _)
          obtain ⟨⟨⟨c00, c01, c02⟩, ⟨c10, c11, c12⟩, -⟩, -⟩ := Sd.of HK.out
          go_wp2_with fail
          refine (HTU.out _).mono ?_
          rintro r w3 ⟨rfl, hb⟩
          clear c00 c01 c02 c10 c11 c12
          have hk := HK.out.keep hb
          replace HK := Lib.hid hk
          clear hk hb
          obtain ⟨⟨⟨c00, c01, c02⟩, ⟨c10, c11, c12⟩, -⟩, -⟩ := Sd.of HK.out
          go_wp2_with fail
          refine (HQ.out _ HK.out.1).mono ?_
          rintro r w4 ⟨rfl, hb⟩
          clear c00 c01 c02 c10 c11 c12
          have hk := HK.out.keep hb
          replace HK := Lib.hid hk
          clear hk hb
          replace HK := Lib.hid (show Kept3 w [(w.heap.size, .bool nd, .string sd, .int .i64 (ed)), (w2.heap.size, .bool false, .string ⟨#[]⟩, .int .i64 (0)), (w4.heap.size, .bool false, .string ⟨#[]⟩, .int .i64 (0))] (w4.alloc (.cells #[.bool false, .string ⟨#[]⟩, .int .i64 (0)] 23)) from HK.out.grow _ _ _ _)
          obtain ⟨⟨⟨c00, c01, c02⟩, ⟨c10, c11, c12⟩, ⟨c20, c21, c22⟩, -⟩, -⟩ := Sd.of HK.out
          go_wp2
          clear c00 c01 c02 c10 c11 c12 c20 c21 c22
          refine wp_region_held_drew (S := (fun w' => ((w'.cell? ⟨w.heap.size, 0, none⟩ = some (.bool nd) ∧ w'.cell? ⟨w.heap.size, 1, none⟩ = some (.string sd) ∧ w'.cell? ⟨w.heap.size, 2, none⟩ = some (.int .i64 (ed))) ∧ (w'.cell? ⟨w2.heap.size, 0, none⟩ = some (.bool false) ∧ w'.cell? ⟨w2.heap.size, 1, none⟩ = some (.string ⟨#[]⟩) ∧ w'.cell? ⟨w2.heap.size, 2, none⟩ = some (.int .i64 (0))) ∧ (w'.cell? ⟨w4.heap.size, 0, none⟩ = some (.bool false) ∧ w'.cell? ⟨w4.heap.size, 1, none⟩ = some (.string ⟨#[]⟩) ∧ w'.cell? ⟨w4.heap.size, 2, none⟩ = some (.int .i64 (0))) ∧ True) ∧ Hid (Kept3 w [(w.heap.size, .bool nd, .string sd, .int .i64 (ed)), (w2.heap.size, .bool false, .string ⟨#[]⟩, .int .i64 (0)), (w4.heap.size, .bool false, .string ⟨#[]⟩, .int .i64 (0))] w'))) (by kernel_rfl) (Sd.of HK.out.drew) (fun hHeld => ?_)
          refine step_at 0 (by kernel_rfl) rfl rfl (fun K hK => ?_)
          go_simp
          refine (answers08_c _ (Sd.pw (w0 := w) (L := [(w.heap.size, .bool nd, .string sd, .int .i64 (ed)), (w2.heap.size, .bool false, .string ⟨#[]⟩, .int .i64 (0)), (w4.heap.size, .bool false, .string ⟨#[]⟩, .int .i64 (0))]) hHeld)).mono ?_
          rintro r wr ⟨rfl, hb⟩
          have hS := Sd.keep (w0 := w) (L := [(w.heap.size, .bool nd, .string sd, .int .i64 (ed)), (w2.heap.size, .bool false, .string ⟨#[]⟩, .int .i64 (0)), (w4.heap.size, .bool false, .string ⟨#[]⟩, .int .i64 (0))]) hHeld hb
          clear hHeld
          skip
          clear hb
          go_wp2_with fail
          refine hK.out _ _ hS (fun hHeld => ?_)
          clear hK K hS
          try simp only [Act.put, List.setIfInBounds_toArray, List.set_cons_zero, List.set_cons_succ]
          refine' take_at 1 (v := _) rfl (by kernel_rfl) (by kernel_rfl) (by kernel_rfl) (fun _ _ _ h => h) rfl ?y1 hHeld ?r1
          case y1 =>
            intro w hSw
            try dsimp only at hSw
            go_simp
            try with_reducible rfl
          try simp only [Act.put, List.setIfInBounds_toArray, List.set_cons_zero, List.set_cons_succ]
          refine' take_at 2 (v := _) rfl (by kernel_rfl) (by kernel_rfl) (by kernel_rfl) (fun _ _ _ h => h) rfl ?y2 hHeld ?r2
          case y2 =>
            intro w hSw
            try dsimp only at hSw
            go_simp
            try with_reducible rfl
          try simp only [Act.put, List.setIfInBounds_toArray, List.set_cons_zero, List.set_cons_succ]
          refine' take_at 3 (v := _) rfl (by kernel_rfl) (by kernel_rfl) (by kernel_rfl) (fun _ _ _ h => h) rfl ?y3 hHeld ?r3
          case y3 =>
            intro w hSw
            try dsimp only at hSw
            go_simp
            try with_reducible rfl
          try simp only [Act.put, List.setIfInBounds_toArray, List.set_cons_zero, List.set_cons_succ]
          refine' take_at 4 (v := _) rfl (by kernel_rfl) (by kernel_rfl) (by kernel_rfl) (fun _ _ _ h => h) rfl ?y4 hHeld ?r4
          case y4 =>
            intro w hSw
            try dsimp only at hSw
            go_simp
            try with_reducible rfl
          try simp only [Act.put, List.setIfInBounds_toArray, List.set_cons_zero, List.set_cons_succ]
          refine' take_at 5 (v := _) rfl (by kernel_rfl) (by kernel_rfl) (by kernel_rfl) (fun _ _ _ h => h) rfl ?y5 hHeld ?r5
          case y5 =>
            intro w hSw
            try dsimp only at hSw
            go_simp
            try with_reducible rfl
          try simp only [Act.put, List.setIfInBounds_toArray, List.set_cons_zero, List.set_cons_succ]
          refine' take_at 6 (v := _) rfl (by kernel_rfl) (by kernel_rfl) (by kernel_rfl) (fun _ _ _ h => h) rfl ?y6 hHeld ?r6
          case y6 =>
            intro w hSw
            try dsimp only at hSw
            go_simp
            try with_reducible rfl
          try simp only [Act.put, List.setIfInBounds_toArray, List.set_cons_zero, List.set_cons_succ]
          refine' take_at 7 (v := _) rfl (by kernel_rfl) (by kernel_rfl) (by kernel_rfl) (fun _ _ _ h => h) rfl ?y7 hHeld ?r7
          case y7 =>
            intro w hSw
            try dsimp only at hSw
            go_simp
            try with_reducible rfl
          try simp only [Act.put, List.setIfInBounds_toArray, List.set_cons_zero, List.set_cons_succ]
          refine' take_at 8 (v := _) rfl (by kernel_rfl) (by kernel_rfl) (by kernel_rfl) (fun _ _ _ h => h) rfl ?y8 hHeld ?r8
          case y8 =>
            intro w hSw
            try dsimp only at hSw
            go_simp
            try with_reducible rfl
          try simp only [Act.put, List.setIfInBounds_toArray, List.set_cons_zero, List.set_cons_succ]
          refine' take_at 9 (v := _) rfl (by kernel_rfl) (by kernel_rfl) (by kernel_rfl) (fun _ _ _ h => h) rfl ?y9 hHeld ?r9
          case y9 =>
            intro w hSw
            try dsimp only at hSw
            go_simp
            try with_reducible rfl
          try simp only [Act.put, List.setIfInBounds_toArray, List.set_cons_zero, List.set_cons_succ]
          refine skip_at 10 rfl (by kernel_rfl) (by kernel_rfl) (by kernel_rfl) (fun _ _ _ h => h) rfl hHeld ?_
          try simp only [Act.put, List.setIfInBounds_toArray, List.set_cons_zero, List.set_cons_succ]
          refine skip_at 11 rfl (by kernel_rfl) (by kernel_rfl) (by kernel_rfl) (fun _ _ _ h => h) rfl hHeld ?_
          try simp only [Act.put, List.setIfInBounds_toArray, List.set_cons_zero, List.set_cons_succ]
          refine skip_at 12 rfl (by kernel_rfl) (by kernel_rfl) (by kernel_rfl) (fun _ _ _ h => h) rfl hHeld ?_
          try simp only [Act.put, List.setIfInBounds_toArray, List.set_cons_zero, List.set_cons_succ]
          refine skip_at 13 rfl (by kernel_rfl) (by kernel_rfl) (by kernel_rfl) (fun _ _ _ h => h) rfl hHeld ?_
          try simp only [Act.put, List.setIfInBounds_toArray, List.set_cons_zero, List.set_cons_succ]
          refine' take_at 14 (v := _) rfl (by kernel_rfl) (by kernel_rfl) (by kernel_rfl) (fun _ _ _ h => h) rfl ?y14 hHeld ?r14
          case y14 =>
            intro w hSw
            try dsimp only at hSw
            go_simp
            try with_reducible rfl
          try simp only [Act.put, List.setIfInBounds_toArray, List.set_cons_zero, List.set_cons_succ]
          refine' take_at 15 (v := _) rfl (by kernel_rfl) (by kernel_rfl) (by kernel_rfl) (fun _ _ _ h => h) rfl ?y15 hHeld ?r15
          case y15 =>
            intro w hSw
            try dsimp only at hSw
            go_simp
            try with_reducible rfl
          try simp only [Act.put, List.setIfInBounds_toArray, List.set_cons_zero, List.set_cons_succ]
          refine' take_at 16 (v := _) rfl (by kernel_rfl) (by kernel_rfl) (by kernel_rfl) (fun _ _ _ h => h) rfl ?y16 hHeld ?r16
          case y16 =>
            intro w hSw
            try dsimp only at hSw
            go_simp
            try with_reducible rfl
          try simp only [Act.put, List.setIfInBounds_toArray, List.set_cons_zero, List.set_cons_succ]
          refine wpAnyH_done (by kernel_rfl) ?_ _
          have HB := Lib.hid (Sd.bel (w0 := w) (L := [(w.heap.size, .bool nd, .string sd, .int .i64 (ed)), (w2.heap.size, .bool false, .string ⟨#[]⟩, .int .i64 (0)), (w4.heap.size, .bool false, .string ⟨#[]⟩, .int .i64 (0))]) hHeld)
          clear hHeld
          go_wp2
          go_ret
          exact ⟨rfl, HB.out⟩
        · by_cases h7 : m = 7
          · by_cases hx : X % (10 ^ (a - -400).toNat) = 0
            · subst h7
              have HR := Lib.hid (fun (w : World) (hP : Pw w) => placeRound_u (m := 7) (p := a) (n := nd) (w := w) (v := .tuple #[.agg #[.bool nd, .string (nstr X), .int .i64 (nexp X (-400))], .int .i64 0]) (isWay_true (by omega) (by omega)) HU.out (by omega) (by omega) rfl (rndV_mult hx) hP)
              have HQ := Lib.hid (fun (w : World) (hP : Pw w) => placeRound_u (m := 7) (p := a) (n := (!nd)) (w := w) (v := .tuple #[.agg #[.bool (!nd), .string (nstr X), .int .i64 (nexp X (-400))], .int .i64 0]) (isWay_true (by omega) (by omega)) HU.out (by omega) (by omega) rfl (rndV_mult hx) hP)
              clear hx
              obtain ⟨R, rfl⟩ : ∃ R, R = X := ⟨_, rfl⟩
              go_enter Tryd.func7, Tryd.ntmps7
              go_wp2_with fail
              refine (HG.out _ HK.out.1).mono ?_
              rintro r w1 ⟨rfl, hb⟩
              have hk := HK.out.keep hb
              replace HK := Lib.hid hk
              clear hk hb
              obtain ⟨⟨⟨c00, c01, c02⟩, -⟩, -⟩ := Sd.of HK.out
              go_wp2_with fail
              refine (HR.out _ HK.out.1).mono ?_
              rintro r w2 ⟨rfl, hb⟩
              clear c00 c01 c02
              have hk := HK.out.keep hb
              replace HK := Lib.hid hk
              clear hk hb
              replace HK := Lib.hid (show Kept3 w [(w.heap.size, .bool nd, .string sd, .int .i64 (ed)), (w2.heap.size, .bool nd, .string (nstr R), .int .i64 (nexp R (-400)))] (w2.alloc (.cells #[.bool nd, .string (nstr R), .int .i64 (nexp R (-400))] 23)) from HK.out.grow _ _ _ _)
              obtain ⟨⟨⟨c00, c01, c02⟩, ⟨c10, c11, c12⟩, -⟩, -⟩ := Sd.of HK.out
              go_wp2_with fail
              refine (HTU.out _).mono ?_
              rintro r w3 ⟨rfl, hb⟩
              clear c00 c01 c02 c10 c11 c12
              have hk := HK.out.keep hb
              replace HK := Lib.hid hk
              clear hk hb
              obtain ⟨⟨⟨c00, c01, c02⟩, ⟨c10, c11, c12⟩, -⟩, -⟩ := Sd.of HK.out
              go_wp2_with fail
              refine (HQ.out _ HK.out.1).mono ?_
              rintro r w4 ⟨rfl, hb⟩
              clear c00 c01 c02 c10 c11 c12
              have hk := HK.out.keep hb
              replace HK := Lib.hid hk
              clear hk hb
              replace HK := Lib.hid (show Kept3 w [(w.heap.size, .bool nd, .string sd, .int .i64 (ed)), (w2.heap.size, .bool nd, .string (nstr R), .int .i64 (nexp R (-400))), (w4.heap.size, .bool (!nd), .string (nstr R), .int .i64 (nexp R (-400)))] (w4.alloc (.cells #[.bool (!nd), .string (nstr R), .int .i64 (nexp R (-400))] 23)) from HK.out.grow _ _ _ _)
              obtain ⟨⟨⟨c00, c01, c02⟩, ⟨c10, c11, c12⟩, ⟨c20, c21, c22⟩, -⟩, -⟩ := Sd.of HK.out
              go_wp2
              clear c00 c01 c02 c10 c11 c12 c20 c21 c22
              have hS : Sd w [(w.heap.size, .bool nd, .string sd, .int .i64 (ed)), (w2.heap.size, .bool nd, .string (nstr R), .int .i64 (nexp R (-400))), (w4.heap.size, .bool (!nd), .string (nstr R), .int .i64 (nexp R (-400)))] _ := .of HK.out.drew
              go_region_held3 (fun w' => ((w'.cell? ⟨w.heap.size, 0, none⟩ = some (.bool nd) ∧ w'.cell? ⟨w.heap.size, 1, none⟩ = some (.string sd) ∧ w'.cell? ⟨w.heap.size, 2, none⟩ = some (.int .i64 (ed))) ∧ (w'.cell? ⟨w2.heap.size, 0, none⟩ = some (.bool nd) ∧ w'.cell? ⟨w2.heap.size, 1, none⟩ = some (.string (nstr R)) ∧ w'.cell? ⟨w2.heap.size, 2, none⟩ = some (.int .i64 (nexp R (-400)))) ∧ (w'.cell? ⟨w4.heap.size, 0, none⟩ = some (.bool (!nd)) ∧ w'.cell? ⟨w4.heap.size, 1, none⟩ = some (.string (nstr R)) ∧ w'.cell? ⟨w4.heap.size, 2, none⟩ = some (.int .i64 (nexp R (-400)))) ∧ True) ∧ Hid (Kept3 w [(w.heap.size, .bool nd, .string sd, .int .i64 (ed)), (w2.heap.size, .bool nd, .string (nstr R), .int .i64 (nexp R (-400))), (w4.heap.size, .bool (!nd), .string (nstr R), .int .i64 (nexp R (-400)))] w')) (assumption)
                (first
                  | (go_at_call 10; refine (answers08_c _ (Sd.pw (w0 := w) (L := [(w.heap.size, .bool nd, .string sd, .int .i64 (ed)), (w2.heap.size, .bool nd, .string (nstr R), .int .i64 (nexp R (-400))), (w4.heap.size, .bool (!nd), .string (nstr R), .int .i64 (nexp R (-400)))]) (by assumption))).mono ?_; rintro r wr ⟨rfl, hb⟩; have hS := Sd.keep (w0 := w) (L := [(w.heap.size, .bool nd, .string sd, .int .i64 (ed)), (w2.heap.size, .bool nd, .string (nstr R), .int .i64 (nexp R (-400))), (w4.heap.size, .bool (!nd), .string (nstr R), .int .i64 (nexp R (-400)))]) (by assumption) hb; clear hb)
                  | (go_at_call 17; refine (ref5Turn_c _ _ _ _).mono ?_; rintro r wr ⟨rfl, hb⟩; have hS := Sd.keep (w0 := w) (L := [(w.heap.size, .bool nd, .string sd, .int .i64 (ed)), (w2.heap.size, .bool nd, .string (nstr R), .int .i64 (nexp R (-400))), (w4.heap.size, .bool (!nd), .string (nstr R), .int .i64 (nexp R (-400)))]) (by assumption) hb; clear hb))
              rename_i hHeld
              clear hHeld
              have HB := Lib.hid hS.bel
              clear hS
              go_wp2
              go_ret
              exact ⟨rfl, HB.out⟩
            · subst h7
              have HR := Lib.hid (fun (w : World) (hP : Pw w) => placeRound_u (m := 7) (p := a) (n := nd) (w := w) (v := .tuple #[.agg #[.bool false, .string ⟨#[]⟩, .int .i64 0], .int .i64 11]) (isWay_true (by omega) (by omega)) HU.out (by omega) (by omega) rfl (rndV_no hx) hP)
              have HQ := Lib.hid (fun (w : World) (hP : Pw w) => placeRound_u (m := 7) (p := a) (n := (!nd)) (w := w) (v := .tuple #[.agg #[.bool false, .string ⟨#[]⟩, .int .i64 0], .int .i64 11]) (isWay_true (by omega) (by omega)) HU.out (by omega) (by omega) rfl (rndV_no hx) hP)
              clear hx
              go_enter Tryd.func7, Tryd.ntmps7
              go_wp2_with fail
              refine (HG.out _ HK.out.1).mono ?_
              rintro r w1 ⟨rfl, hb⟩
              have hk := HK.out.keep hb
              replace HK := Lib.hid hk
              clear hk hb
              obtain ⟨⟨⟨c00, c01, c02⟩, -⟩, -⟩ := Sd.of HK.out
              go_wp2_with fail
              refine (HR.out _ HK.out.1).mono ?_
              rintro r w2 ⟨rfl, hb⟩
              clear c00 c01 c02
              have hk := HK.out.keep hb
              replace HK := Lib.hid hk
              clear hk hb
              replace HK := Lib.hid (show Kept3 w [(w.heap.size, .bool nd, .string sd, .int .i64 (ed)), (w2.heap.size, .bool false, .string ⟨#[]⟩, .int .i64 (0))] (w2.alloc (.cells #[.bool false, .string ⟨#[]⟩, .int .i64 (0)] 23)) from HK.out.grow _ _ _ _)
              obtain ⟨⟨⟨c00, c01, c02⟩, ⟨c10, c11, c12⟩, -⟩, -⟩ := Sd.of HK.out
              go_wp2_with fail
              refine (HTU.out _).mono ?_
              rintro r w3 ⟨rfl, hb⟩
              clear c00 c01 c02 c10 c11 c12
              have hk := HK.out.keep hb
              replace HK := Lib.hid hk
              clear hk hb
              obtain ⟨⟨⟨c00, c01, c02⟩, ⟨c10, c11, c12⟩, -⟩, -⟩ := Sd.of HK.out
              go_wp2_with fail
              refine (HQ.out _ HK.out.1).mono ?_
              rintro r w4 ⟨rfl, hb⟩
              clear c00 c01 c02 c10 c11 c12
              have hk := HK.out.keep hb
              replace HK := Lib.hid hk
              clear hk hb
              replace HK := Lib.hid (show Kept3 w [(w.heap.size, .bool nd, .string sd, .int .i64 (ed)), (w2.heap.size, .bool false, .string ⟨#[]⟩, .int .i64 (0)), (w4.heap.size, .bool false, .string ⟨#[]⟩, .int .i64 (0))] (w4.alloc (.cells #[.bool false, .string ⟨#[]⟩, .int .i64 (0)] 23)) from HK.out.grow _ _ _ _)
              obtain ⟨⟨⟨c00, c01, c02⟩, ⟨c10, c11, c12⟩, ⟨c20, c21, c22⟩, -⟩, -⟩ := Sd.of HK.out
              go_wp2
              clear c00 c01 c02 c10 c11 c12 c20 c21 c22
              refine wp_region_held_drew (S := (fun w' => ((w'.cell? ⟨w.heap.size, 0, none⟩ = some (.bool nd) ∧ w'.cell? ⟨w.heap.size, 1, none⟩ = some (.string sd) ∧ w'.cell? ⟨w.heap.size, 2, none⟩ = some (.int .i64 (ed))) ∧ (w'.cell? ⟨w2.heap.size, 0, none⟩ = some (.bool false) ∧ w'.cell? ⟨w2.heap.size, 1, none⟩ = some (.string ⟨#[]⟩) ∧ w'.cell? ⟨w2.heap.size, 2, none⟩ = some (.int .i64 (0))) ∧ (w'.cell? ⟨w4.heap.size, 0, none⟩ = some (.bool false) ∧ w'.cell? ⟨w4.heap.size, 1, none⟩ = some (.string ⟨#[]⟩) ∧ w'.cell? ⟨w4.heap.size, 2, none⟩ = some (.int .i64 (0))) ∧ True) ∧ Hid (Kept3 w [(w.heap.size, .bool nd, .string sd, .int .i64 (ed)), (w2.heap.size, .bool false, .string ⟨#[]⟩, .int .i64 (0)), (w4.heap.size, .bool false, .string ⟨#[]⟩, .int .i64 (0))] w'))) (by kernel_rfl) (Sd.of HK.out.drew) (fun hHeld => ?_)
              refine step_at 0 (by kernel_rfl) rfl rfl (fun K hK => ?_)
              go_simp
              refine (answers08_c _ (Sd.pw (w0 := w) (L := [(w.heap.size, .bool nd, .string sd, .int .i64 (ed)), (w2.heap.size, .bool false, .string ⟨#[]⟩, .int .i64 (0)), (w4.heap.size, .bool false, .string ⟨#[]⟩, .int .i64 (0))]) hHeld)).mono ?_
              rintro r wr ⟨rfl, hb⟩
              have hS := Sd.keep (w0 := w) (L := [(w.heap.size, .bool nd, .string sd, .int .i64 (ed)), (w2.heap.size, .bool false, .string ⟨#[]⟩, .int .i64 (0)), (w4.heap.size, .bool false, .string ⟨#[]⟩, .int .i64 (0))]) hHeld hb
              clear hHeld
              skip
              clear hb
              go_wp2_with fail
              refine hK.out _ _ hS (fun hHeld => ?_)
              clear hK K hS
              try simp only [Act.put, List.setIfInBounds_toArray, List.set_cons_zero, List.set_cons_succ]
              refine' take_at 1 (v := _) rfl (by kernel_rfl) (by kernel_rfl) (by kernel_rfl) (fun _ _ _ h => h) rfl ?y17 hHeld ?r17
              case y17 =>
                intro w hSw
                try dsimp only at hSw
                go_simp
                try with_reducible rfl
              try simp only [Act.put, List.setIfInBounds_toArray, List.set_cons_zero, List.set_cons_succ]
              refine' take_at 2 (v := _) rfl (by kernel_rfl) (by kernel_rfl) (by kernel_rfl) (fun _ _ _ h => h) rfl ?y18 hHeld ?r18
              case y18 =>
                intro w hSw
                try dsimp only at hSw
                go_simp
                try with_reducible rfl
              try simp only [Act.put, List.setIfInBounds_toArray, List.set_cons_zero, List.set_cons_succ]
              refine' take_at 3 (v := _) rfl (by kernel_rfl) (by kernel_rfl) (by kernel_rfl) (fun _ _ _ h => h) rfl ?y19 hHeld ?r19
              case y19 =>
                intro w hSw
                try dsimp only at hSw
                go_simp
                try with_reducible rfl
              try simp only [Act.put, List.setIfInBounds_toArray, List.set_cons_zero, List.set_cons_succ]
              refine' take_at 4 (v := _) rfl (by kernel_rfl) (by kernel_rfl) (by kernel_rfl) (fun _ _ _ h => h) rfl ?y20 hHeld ?r20
              case y20 =>
                intro w hSw
                try dsimp only at hSw
                go_simp
                try with_reducible rfl
              try simp only [Act.put, List.setIfInBounds_toArray, List.set_cons_zero, List.set_cons_succ]
              refine' take_at 5 (v := _) rfl (by kernel_rfl) (by kernel_rfl) (by kernel_rfl) (fun _ _ _ h => h) rfl ?y21 hHeld ?r21
              case y21 =>
                intro w hSw
                try dsimp only at hSw
                go_simp
                try with_reducible rfl
              try simp only [Act.put, List.setIfInBounds_toArray, List.set_cons_zero, List.set_cons_succ]
              refine' take_at 6 (v := _) rfl (by kernel_rfl) (by kernel_rfl) (by kernel_rfl) (fun _ _ _ h => h) rfl ?y22 hHeld ?r22
              case y22 =>
                intro w hSw
                try dsimp only at hSw
                go_simp
                try with_reducible rfl
              try simp only [Act.put, List.setIfInBounds_toArray, List.set_cons_zero, List.set_cons_succ]
              refine' take_at 7 (v := _) rfl (by kernel_rfl) (by kernel_rfl) (by kernel_rfl) (fun _ _ _ h => h) rfl ?y23 hHeld ?r23
              case y23 =>
                intro w hSw
                try dsimp only at hSw
                go_simp
                try with_reducible rfl
              try simp only [Act.put, List.setIfInBounds_toArray, List.set_cons_zero, List.set_cons_succ]
              refine' take_at 8 (v := _) rfl (by kernel_rfl) (by kernel_rfl) (by kernel_rfl) (fun _ _ _ h => h) rfl ?y24 hHeld ?r24
              case y24 =>
                intro w hSw
                try dsimp only at hSw
                go_simp
                try with_reducible rfl
              try simp only [Act.put, List.setIfInBounds_toArray, List.set_cons_zero, List.set_cons_succ]
              refine' take_at 9 (v := _) rfl (by kernel_rfl) (by kernel_rfl) (by kernel_rfl) (fun _ _ _ h => h) rfl ?y25 hHeld ?r25
              case y25 =>
                intro w hSw
                try dsimp only at hSw
                go_simp
                try with_reducible rfl
              try simp only [Act.put, List.setIfInBounds_toArray, List.set_cons_zero, List.set_cons_succ]
              refine skip_at 10 rfl (by kernel_rfl) (by kernel_rfl) (by kernel_rfl) (fun _ _ _ h => h) rfl hHeld ?_
              try simp only [Act.put, List.setIfInBounds_toArray, List.set_cons_zero, List.set_cons_succ]
              refine skip_at 11 rfl (by kernel_rfl) (by kernel_rfl) (by kernel_rfl) (fun _ _ _ h => h) rfl hHeld ?_
              try simp only [Act.put, List.setIfInBounds_toArray, List.set_cons_zero, List.set_cons_succ]
              refine skip_at 12 rfl (by kernel_rfl) (by kernel_rfl) (by kernel_rfl) (fun _ _ _ h => h) rfl hHeld ?_
              try simp only [Act.put, List.setIfInBounds_toArray, List.set_cons_zero, List.set_cons_succ]
              refine skip_at 13 rfl (by kernel_rfl) (by kernel_rfl) (by kernel_rfl) (fun _ _ _ h => h) rfl hHeld ?_
              try simp only [Act.put, List.setIfInBounds_toArray, List.set_cons_zero, List.set_cons_succ]
              refine' take_at 14 (v := _) rfl (by kernel_rfl) (by kernel_rfl) (by kernel_rfl) (fun _ _ _ h => h) rfl ?y30 hHeld ?r30
              case y30 =>
                intro w hSw
                try dsimp only at hSw
                go_simp
                try with_reducible rfl
              try simp only [Act.put, List.setIfInBounds_toArray, List.set_cons_zero, List.set_cons_succ]
              refine' take_at 15 (v := _) rfl (by kernel_rfl) (by kernel_rfl) (by kernel_rfl) (fun _ _ _ h => h) rfl ?y31 hHeld ?r31
              case y31 =>
                intro w hSw
                try dsimp only at hSw
                go_simp
                try with_reducible rfl
              try simp only [Act.put, List.setIfInBounds_toArray, List.set_cons_zero, List.set_cons_succ]
              refine' take_at 16 (v := _) rfl (by kernel_rfl) (by kernel_rfl) (by kernel_rfl) (fun _ _ _ h => h) rfl ?y32 hHeld ?r32
              case y32 =>
                intro w hSw
                try dsimp only at hSw
                go_simp
                try with_reducible rfl
              try simp only [Act.put, List.setIfInBounds_toArray, List.set_cons_zero, List.set_cons_succ]
              refine wpAnyH_done (by kernel_rfl) ?_ _
              have HB := Lib.hid (Sd.bel (w0 := w) (L := [(w.heap.size, .bool nd, .string sd, .int .i64 (ed)), (w2.heap.size, .bool false, .string ⟨#[]⟩, .int .i64 (0)), (w4.heap.size, .bool false, .string ⟨#[]⟩, .int .i64 (0))]) hHeld)
              clear hHeld
              go_wp2
              go_ret
              exact ⟨rfl, HB.out⟩
          · have hn0 : (m == 0) = false := by simp; omega
            have hn1 : (m == 1) = false := by simp; omega
            have HRN := Lib.hid (rndN_turn m nd X (10 ^ (a - -400).toNat))
            obtain ⟨R, hR⟩ : ∃ R, rndN m nd X (10 ^ (a - -400).toNat) = R := ⟨_, rfl⟩
            have hR2 : rndN m (!nd) X (10 ^ (a - -400).toNat) = R := by rw [← hR]; exact by have := HRN.out; rw [turnM, if_neg (by omega), if_neg (by omega)] at this; exact this
            have HR := Lib.hid (fun (w : World) (hP : Pw w) => placeRound_u (m := m) (p := a) (n := nd) (w := w) (v := .tuple #[.agg #[.bool nd, .string (nstr R), .int .i64 (nexp R (-400))], .int .i64 0]) (isWay_true (by omega) (by omega)) HU.out (by omega) (by omega) rfl (by rw [rndV_of (by omega), hR]) hP)
            have HQ := Lib.hid (fun (w : World) (hP : Pw w) => placeRound_u (m := m) (p := a) (n := (!nd)) (w := w) (v := .tuple #[.agg #[.bool (!nd), .string (nstr R), .int .i64 (nexp R (-400))], .int .i64 0]) (isWay_true (by omega) (by omega)) HU.out (by omega) (by omega) rfl (by rw [rndV_of (by omega), hR2]) hP)
            clear hR hR2
            go_enter Tryd.func7, Tryd.ntmps7
            go_wp2_with fail
            refine (HG.out _ HK.out.1).mono ?_
            rintro r w1 ⟨rfl, hb⟩
            have hk := HK.out.keep hb
            replace HK := Lib.hid hk
            clear hk hb
            obtain ⟨⟨⟨c00, c01, c02⟩, -⟩, -⟩ := Sd.of HK.out
            go_wp2_with fail
            refine (HR.out _ HK.out.1).mono ?_
            rintro r w2 ⟨rfl, hb⟩
            clear c00 c01 c02
            have hk := HK.out.keep hb
            replace HK := Lib.hid hk
            clear hk hb
            replace HK := Lib.hid (show Kept3 w [(w.heap.size, .bool nd, .string sd, .int .i64 (ed)), (w2.heap.size, .bool nd, .string (nstr R), .int .i64 (nexp R (-400)))] (w2.alloc (.cells #[.bool nd, .string (nstr R), .int .i64 (nexp R (-400))] 23)) from HK.out.grow _ _ _ _)
            obtain ⟨⟨⟨c00, c01, c02⟩, ⟨c10, c11, c12⟩, -⟩, -⟩ := Sd.of HK.out
            go_wp2_with fail
            refine (HTU.out _).mono ?_
            rintro r w3 ⟨rfl, hb⟩
            clear c00 c01 c02 c10 c11 c12
            have hk := HK.out.keep hb
            replace HK := Lib.hid hk
            clear hk hb
            obtain ⟨⟨⟨c00, c01, c02⟩, ⟨c10, c11, c12⟩, -⟩, -⟩ := Sd.of HK.out
            go_wp2_with fail
            refine (HQ.out _ HK.out.1).mono ?_
            rintro r w4 ⟨rfl, hb⟩
            clear c00 c01 c02 c10 c11 c12
            have hk := HK.out.keep hb
            replace HK := Lib.hid hk
            clear hk hb
            replace HK := Lib.hid (show Kept3 w [(w.heap.size, .bool nd, .string sd, .int .i64 (ed)), (w2.heap.size, .bool nd, .string (nstr R), .int .i64 (nexp R (-400))), (w4.heap.size, .bool (!nd), .string (nstr R), .int .i64 (nexp R (-400)))] (w4.alloc (.cells #[.bool (!nd), .string (nstr R), .int .i64 (nexp R (-400))] 23)) from HK.out.grow _ _ _ _)
            obtain ⟨⟨⟨c00, c01, c02⟩, ⟨c10, c11, c12⟩, ⟨c20, c21, c22⟩, -⟩, -⟩ := Sd.of HK.out
            go_wp2
            clear c00 c01 c02 c10 c11 c12 c20 c21 c22
            have hS : Sd w [(w.heap.size, .bool nd, .string sd, .int .i64 (ed)), (w2.heap.size, .bool nd, .string (nstr R), .int .i64 (nexp R (-400))), (w4.heap.size, .bool (!nd), .string (nstr R), .int .i64 (nexp R (-400)))] _ := .of HK.out.drew
            go_region_held3 (fun w' => ((w'.cell? ⟨w.heap.size, 0, none⟩ = some (.bool nd) ∧ w'.cell? ⟨w.heap.size, 1, none⟩ = some (.string sd) ∧ w'.cell? ⟨w.heap.size, 2, none⟩ = some (.int .i64 (ed))) ∧ (w'.cell? ⟨w2.heap.size, 0, none⟩ = some (.bool nd) ∧ w'.cell? ⟨w2.heap.size, 1, none⟩ = some (.string (nstr R)) ∧ w'.cell? ⟨w2.heap.size, 2, none⟩ = some (.int .i64 (nexp R (-400)))) ∧ (w'.cell? ⟨w4.heap.size, 0, none⟩ = some (.bool (!nd)) ∧ w'.cell? ⟨w4.heap.size, 1, none⟩ = some (.string (nstr R)) ∧ w'.cell? ⟨w4.heap.size, 2, none⟩ = some (.int .i64 (nexp R (-400)))) ∧ True) ∧ Hid (Kept3 w [(w.heap.size, .bool nd, .string sd, .int .i64 (ed)), (w2.heap.size, .bool nd, .string (nstr R), .int .i64 (nexp R (-400))), (w4.heap.size, .bool (!nd), .string (nstr R), .int .i64 (nexp R (-400)))] w')) (assumption)
              (first
                | (go_at_call 10; refine (answers08_c _ (Sd.pw (w0 := w) (L := [(w.heap.size, .bool nd, .string sd, .int .i64 (ed)), (w2.heap.size, .bool nd, .string (nstr R), .int .i64 (nexp R (-400))), (w4.heap.size, .bool (!nd), .string (nstr R), .int .i64 (nexp R (-400)))]) (by assumption))).mono ?_; rintro r wr ⟨rfl, hb⟩; have hS := Sd.keep (w0 := w) (L := [(w.heap.size, .bool nd, .string sd, .int .i64 (ed)), (w2.heap.size, .bool nd, .string (nstr R), .int .i64 (nexp R (-400))), (w4.heap.size, .bool (!nd), .string (nstr R), .int .i64 (nexp R (-400)))]) (by assumption) hb; clear hb)
                | (go_at_call 17; refine (ref5Turn_c _ _ _ _).mono ?_; rintro r wr ⟨rfl, hb⟩; have hS := Sd.keep (w0 := w) (L := [(w.heap.size, .bool nd, .string sd, .int .i64 (ed)), (w2.heap.size, .bool nd, .string (nstr R), .int .i64 (nexp R (-400))), (w4.heap.size, .bool (!nd), .string (nstr R), .int .i64 (nexp R (-400)))]) (by assumption) hb; clear hb))
            rename_i hHeld
            clear hHeld
            have HB := Lib.hid hS.bel
            clear hS
            go_wp2
            go_ret
            exact ⟨rfl, HB.out⟩
end Go.Proofs.YtonanpnacoegcaaDoor
