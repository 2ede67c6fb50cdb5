/-
  SigEnough: the walk.
-/
import Derived.Test.YtkfjombeaidimaaDoorAn9
set_option maxRecDepth 100000
namespace Go.Proofs.YtkfjombeaidimaaDoor
open Go.RowKit
attribute [local go_sem] dec_field0 dec_field1 dec_field2 in
set_option maxHeartbeats 16000000 in
set_option maxRecDepth 100000 in
theorem walk_sigEnough (m : Int) (nd : Bool) (sd : ByteArray) (ed : Int) (n : Int) (w : World) (hm : -9223372036854775808 ≤ m ∧ m ≤ 9223372036854775807) (hd : sd.size ≤ maxLen) (hn : 0 ≤ n ∧ n ≤ 255) (hP : Pw w) :
    Calls Tryd.prog 7 #[.int .i64 m, .agg #[.bool nd, .string sd, .int .i64 ed], .int .u8 n] w fun e w' => e = .returned (.bool true) ∧ Below w.heap.size w w' := by
  obtain ⟨j, hj1⟩ : ∃ j : Int, n.tmod 40 = j := ⟨_, rfl⟩
  have hj2 : n % 40 = j := by rw [← hj1, Int.tmod_eq_emod_of_nonneg (by omega)]
  have hj0 : 0 ≤ j ∧ j < 40 := by omega
  obtain ⟨hj3, hj4⟩ := hj0
  obtain ⟨N, hN⟩ : ∃ N : Nat, j + 1 = (N : Int) := ⟨(j + 1).toNat, by omega⟩
  have hwN : IntKind.i64.wrap (j + 1) = N := by rw [hN]; exact IntWalk.i64_in _ (by omega)
  have hN1 : 1 ≤ N := by omega
  have hN2 : N ≤ 40 := by omega
  have HK := Lib.hid (kept_one w (.bool nd) (.string sd) (.int .i64 ed) 23 hP)
  clear hP
  have HG := Lib.hid (fun w hP => good09_c nd sd ed w hd hP)
  rcases hg : g9 sd ed with _ | _
  · rw [hg] at HG
    clear hg
    go_enter Tryd.func7, Tryd.ntmps7
    go_wp2_with fail
    refine (HG.out _ HK.out.1).mono ?_
    rintro r w1 ⟨rfl, hb⟩
    have hk := HK.out.keep hb
    replace HK := Lib.hid hk
    clear hk hb
    obtain ⟨⟨⟨c00, c01, c02⟩, -⟩, -⟩ := Sd.of HK.out
    go_wp2_with fail
    refine (answers09_c _ HK.out.1).mono ?_
    rintro r w2 ⟨rfl, hb⟩
    clear c00 c01 c02
    have hk := HK.out.keep hb
    replace HK := Lib.hid hk
    clear hk hb
    obtain ⟨⟨⟨c00, c01, c02⟩, -⟩, -⟩ := Sd.of HK.out
    go_wp2
    go_ret
    exact ⟨rfl, HK.out.2.1⟩
  · rw [hg] at HG
    obtain ⟨hf, he1, he2⟩ := g9_true hg
    obtain ⟨X, hu, hl⟩ := DU.of_fine (k := -1000) hf (by omega) (by omega) (by omega)
    have HU := Lib.hid hu
    have HDG := Lib.hid hu.digits
    clear hg hf hu
    by_cases hm1 : m < 0
    · go_enter Tryd.func7, Tryd.ntmps7
      go_wp2_with fail
      refine (HG.out _ HK.out.1).mono ?_
      rintro r w1 ⟨rfl, hb⟩
      have hk := HK.out.keep hb
      replace HK := Lib.hid hk
      clear hk hb
      obtain ⟨⟨⟨c00, c01, c02⟩, -⟩, -⟩ := Sd.of HK.out
      go_wp2_with fail
      refine (answers09_c _ HK.out.1).mono ?_
      rintro r w2 ⟨rfl, hb⟩
      clear c00 c01 c02
      have hk := HK.out.keep hb
      replace HK := Lib.hid hk
      clear hk hb
      obtain ⟨⟨⟨c00, c01, c02⟩, -⟩, -⟩ := Sd.of HK.out
      go_wp2
      go_ret
      exact ⟨rfl, HK.out.2.1⟩
    · by_cases hm2 : 7 < m
      · go_enter Tryd.func7, Tryd.ntmps7
        go_wp2_with fail
        refine (HG.out _ HK.out.1).mono ?_
        rintro r w1 ⟨rfl, hb⟩
        have hk := HK.out.keep hb
        replace HK := Lib.hid hk
        clear hk hb
        obtain ⟨⟨⟨c00, c01, c02⟩, -⟩, -⟩ := Sd.of HK.out
        go_wp2_with fail
        refine (answers09_c _ HK.out.1).mono ?_
        rintro r w2 ⟨rfl, hb⟩
        clear c00 c01 c02
        have hk := HK.out.keep hb
        replace HK := Lib.hid hk
        clear hk hb
        obtain ⟨⟨⟨c00, c01, c02⟩, -⟩, -⟩ := Sd.of HK.out
        go_wp2
        go_ret
        exact ⟨rfl, HK.out.2.1⟩
      · obtain ⟨hs, ha, hb⟩ := sg_place (X := X) (n := N) (by omega) (by omega) (fun h0 => by have := HDG.out h0; omega)
        obtain ⟨p, hp⟩ : ∃ p, dtop (X) (-1000) - (N : Nat) + 1 = p := ⟨_, rfl⟩
        have HS := Lib.hid (sgW_of hp hs)
        rw [hp] at ha hb
        clear hs
        have hfit := sgW_fits hN1 HS.out
        have HCO := Lib.hid (fun (w : World) (hP : Pw w) => sigCount_u (n := nd) (w := w) HU.out rfl hP)
        have hszX := nstr_size X
        by_cases hx : X % (10 ^ (p - -1000).toNat) = 0
        · have hsz : ((nstr X).size : Int) ≤ N := by have := hfit.1 hx; omega
          have HR := Lib.hid (fun (w : World) (hP : Pw w) => sigRound_u (m := m) (n := nd) (a := N) (w := w) (v := .tuple #[.agg #[.bool nd, .string (nstr X), .int .i64 (nexp X (-1000))], .int .i64 0]) (isWay_true (by omega) (by omega)) HU.out (by omega) (by omega) hp ha (by omega) rfl (rndV_mult hx) hP)
          clear hx hfit
          go_enter Tryd.func7, Tryd.ntmps7
          go_wp2_with fail
          refine (HG.out _ HK.out.1).mono ?_
          rintro r w1 ⟨rfl, hb⟩
          have hk := HK.out.keep hb
          replace HK := Lib.hid hk
          clear hk hb
          obtain ⟨⟨⟨c00, c01, c02⟩, -⟩, -⟩ := Sd.of HK.out
          go_wp2_with fail
          refine (HR.out _ HK.out.1).mono ?_
          rintro r w2 ⟨rfl, hb⟩
          clear c00 c01 c02
          have hk := HK.out.keep hb
          replace HK := Lib.hid hk
          clear hk hb
          replace HK := Lib.hid (show Kept3 w [(w.heap.size, .bool nd, .string sd, .int .i64 (ed)), (w2.heap.size, .bool nd, .string (nstr X), .int .i64 (nexp X (-1000)))] (w2.alloc (.cells #[.bool nd, .string (nstr X), .int .i64 (nexp X (-1000))] 23)) from HK.out.grow _ _ _ _)
          obtain ⟨⟨⟨c00, c01, c02⟩, ⟨c10, c11, c12⟩, -⟩, -⟩ := Sd.of HK.out
          go_wp2_with fail
          refine (HCO.out _ HK.out.1).mono ?_
          rintro r w3 ⟨rfl, hb⟩
          clear c00 c01 c02 c10 c11 c12
          have hk := HK.out.keep hb
          replace HK := Lib.hid hk
          clear hk hb
          obtain ⟨⟨⟨c00, c01, c02⟩, ⟨c10, c11, c12⟩, -⟩, -⟩ := Sd.of HK.out
          go_wp2
          clear c00 c01 c02 c10 c11 c12
          have hS : Sd w [(w.heap.size, .bool nd, .string sd, .int .i64 (ed)), (w2.heap.size, .bool nd, .string (nstr X), .int .i64 (nexp X (-1000)))] _ := .of HK.out.drew
          go_region_held3 (fun w' => ((w'.cell? ⟨w.heap.size, 0, none⟩ = some (.bool nd) ∧ w'.cell? ⟨w.heap.size, 1, none⟩ = some (.string sd) ∧ w'.cell? ⟨w.heap.size, 2, none⟩ = some (.int .i64 (ed))) ∧ (w'.cell? ⟨w2.heap.size, 0, none⟩ = some (.bool nd) ∧ w'.cell? ⟨w2.heap.size, 1, none⟩ = some (.string (nstr X)) ∧ w'.cell? ⟨w2.heap.size, 2, none⟩ = some (.int .i64 (nexp X (-1000)))) ∧ True) ∧ Hid (Kept3 w [(w.heap.size, .bool nd, .string sd, .int .i64 (ed)), (w2.heap.size, .bool nd, .string (nstr X), .int .i64 (nexp X (-1000)))] w')) (assumption)
            (first
              | (go_at_call 9; refine (answers09_c _ (Sd.pw (w0 := w) (L := [(w.heap.size, .bool nd, .string sd, .int .i64 (ed)), (w2.heap.size, .bool nd, .string (nstr X), .int .i64 (nexp X (-1000)))]) (by assumption))).mono ?_; rintro r wr ⟨rfl, hb⟩; have hS := Sd.keep (w0 := w) (L := [(w.heap.size, .bool nd, .string sd, .int .i64 (ed)), (w2.heap.size, .bool nd, .string (nstr X), .int .i64 (nexp X (-1000)))]) (by assumption) hb; clear hb)
              | (go_at_call 14; refine (ref5Norm_u HU.out ⟨rfl, rfl⟩ (Sd.pw (w0 := w) (L := [(w.heap.size, .bool nd, .string sd, .int .i64 (ed)), (w2.heap.size, .bool nd, .string (nstr X), .int .i64 (nexp X (-1000)))]) (by assumption))).mono ?_; rintro r wr ⟨rfl, hb⟩; have hS := Sd.keep (w0 := w) (L := [(w.heap.size, .bool nd, .string sd, .int .i64 (ed)), (w2.heap.size, .bool nd, .string (nstr X), .int .i64 (nexp X (-1000)))]) (by assumption) hb; clear hb))
          rename_i hHeld
          clear hHeld
          have HB := Lib.hid hS.bel
          clear hS
          go_wp2
          go_ret
          exact ⟨rfl, HB.out⟩
        · by_cases h7 : m = 7
          · subst h7
            have hsz : ¬ (((nstr X).size : Int) ≤ N) := by have := mt hfit.2 hx; omega
            have HR := Lib.hid (fun (w : World) (hP : Pw w) => sigRound_u (m := 7) (n := nd) (a := N) (w := w) (v := .tuple #[.agg #[.bool false, .string ⟨#[]⟩, .int .i64 0], .int .i64 11]) (isWay_true (by omega) (by omega)) HU.out (by omega) (by omega) hp ha (by omega) rfl (rndV_no hx) hP)
            clear hx hfit
            go_enter Tryd.func7, Tryd.ntmps7
            go_wp2_with fail
            refine (HG.out _ HK.out.1).mono ?_
            rintro r w1 ⟨rfl, hb⟩
            have hk := HK.out.keep hb
            replace HK := Lib.hid hk
            clear hk hb
            obtain ⟨⟨⟨c00, c01, c02⟩, -⟩, -⟩ := Sd.of HK.out
            go_wp2_with fail
            refine (HR.out _ HK.out.1).mono ?_
            rintro r w2 ⟨rfl, hb⟩
            clear c00 c01 c02
            have hk := HK.out.keep hb
            replace HK := Lib.hid hk
            clear hk hb
            replace HK := Lib.hid (show Kept3 w [(w.heap.size, .bool nd, .string sd, .int .i64 (ed)), (w2.heap.size, .bool false, .string ⟨#[]⟩, .int .i64 (0))] (w2.alloc (.cells #[.bool false, .string ⟨#[]⟩, .int .i64 (0)] 23)) from HK.out.grow _ _ _ _)
            obtain ⟨⟨⟨c00, c01, c02⟩, ⟨c10, c11, c12⟩, -⟩, -⟩ := Sd.of HK.out
            go_wp2_with fail
            refine (HCO.out _ HK.out.1).mono ?_
            rintro r w3 ⟨rfl, hb⟩
            clear c00 c01 c02 c10 c11 c12
            have hk := HK.out.keep hb
            replace HK := Lib.hid hk
            clear hk hb
            obtain ⟨⟨⟨c00, c01, c02⟩, ⟨c10, c11, c12⟩, -⟩, -⟩ := Sd.of HK.out
            go_wp2_with fail
            refine (answers09_c _ HK.out.1).mono ?_
            rintro r w4 ⟨rfl, hb⟩
            clear c00 c01 c02 c10 c11 c12
            have hk := HK.out.keep hb
            replace HK := Lib.hid hk
            clear hk hb
            obtain ⟨⟨⟨c00, c01, c02⟩, ⟨c10, c11, c12⟩, -⟩, -⟩ := Sd.of HK.out
            go_wp2
            go_ret
            exact ⟨rfl, HK.out.2.1⟩
          · have hsz : ¬ (((nstr X).size : Int) ≤ N) := by have := mt hfit.2 hx; omega
            obtain ⟨R, hR⟩ : ∃ R, rndN m nd X (10 ^ (p - -1000).toNat) = R := ⟨_, rfl⟩
            have HR := Lib.hid (fun (w : World) (hP : Pw w) => sigRound_u (m := m) (n := nd) (a := N) (w := w) (v := .tuple #[.agg #[.bool nd, .string (nstr R), .int .i64 (nexp R (-1000))], .int .i64 0]) (isWay_true (by omega) (by omega)) HU.out (by omega) (by omega) hp ha (by omega) rfl (by rw [rndV_of h7, hR]) hP)
            have hRl := rnd_len m nd (L := 1450) (X := X) (by omega) (Nat.le_trans (pow_len (p - -1000).toNat) (by omega)) (pow_pos10 _)
            have hRs := sgW_size m nd hN1 HS.out
            have htp := sgW_top m nd (-1000) hN1 HS.out
            rw [hR] at hRl hRs htp
            have hszR : ((nstr R).size : Int) ≤ N := by omega
            have HUR := Lib.hid (DU.z (k := -1000) (X := R) (by omega) (by omega) (by omega))
            have htb := HU.out.top
            obtain ⟨T, hT⟩ : ∃ T, dtop X (-1000) = T := ⟨_, rfl⟩
            obtain ⟨Q, hQ⟩ : ∃ Q, dtop R (-1000) = Q := ⟨_, rfl⟩
            rw [hT] at htp htb
            rw [hQ] at htp
            have HT := Lib.hid hT
            have HQ := Lib.hid hQ
            obtain ⟨htp1, htp2⟩ := htp
            have hwT : IntKind.i64.wrap (T + 1) = T + 1 := IntWalk.i64_in _ (by omega)
            clear hx hfit hR hT hQ
            go_enter Tryd.func7, Tryd.ntmps7
            go_wp2_with fail
            refine (HG.out _ HK.out.1).mono ?_
            rintro r w1 ⟨rfl, hb⟩
            have hk := HK.out.keep hb
            replace HK := Lib.hid hk
            clear hk hb
            obtain ⟨⟨⟨c00, c01, c02⟩, -⟩, -⟩ := Sd.of HK.out
            go_wp2_with fail
            refine (HR.out _ HK.out.1).mono ?_
            rintro r w2 ⟨rfl, hb⟩
            clear c00 c01 c02
            have hk := HK.out.keep hb
            replace HK := Lib.hid hk
            clear hk hb
            replace HK := Lib.hid (show Kept3 w [(w.heap.size, .bool nd, .string sd, .int .i64 (ed)), (w2.heap.size, .bool nd, .string (nstr R), .int .i64 (nexp R (-1000)))] (w2.alloc (.cells #[.bool nd, .string (nstr R), .int .i64 (nexp R (-1000))] 23)) from HK.out.grow _ _ _ _)
            obtain ⟨⟨⟨c00, c01, c02⟩, ⟨c10, c11, c12⟩, -⟩, -⟩ := Sd.of HK.out
            go_wp2_with fail
            refine (HCO.out _ HK.out.1).mono ?_
            rintro r w3 ⟨rfl, hb⟩
            clear c00 c01 c02 c10 c11 c12
            have hk := HK.out.keep hb
            replace HK := Lib.hid hk
            clear hk hb
            obtain ⟨⟨⟨c00, c01, c02⟩, ⟨c10, c11, c12⟩, -⟩, -⟩ := Sd.of HK.out
            go_wp2
            clear c00 c01 c02 c10 c11 c12
            have hS : Sd w [(w.heap.size, .bool nd, .string sd, .int .i64 (ed)), (w2.heap.size, .bool nd, .string (nstr R), .int .i64 (nexp R (-1000)))] _ := .of HK.out.drew
            go_region_held3 (fun w' => ((w'.cell? ⟨w.heap.size, 0, none⟩ = some (.bool nd) ∧ w'.cell? ⟨w.heap.size, 1, none⟩ = some (.string sd) ∧ w'.cell? ⟨w.heap.size, 2, none⟩ = some (.int .i64 (ed))) ∧ (w'.cell? ⟨w2.heap.size, 0, none⟩ = some (.bool nd) ∧ w'.cell? ⟨w2.heap.size, 1, none⟩ = some (.string (nstr R)) ∧ w'.cell? ⟨w2.heap.size, 2, none⟩ = some (.int .i64 (nexp R (-1000)))) ∧ True) ∧ Hid (Kept3 w [(w.heap.size, .bool nd, .string sd, .int .i64 (ed)), (w2.heap.size, .bool nd, .string (nstr R), .int .i64 (nexp R (-1000)))] w')) (assumption)
              (first
                | (go_at_call 9; refine (answers09_c _ (Sd.pw (w0 := w) (L := [(w.heap.size, .bool nd, .string sd, .int .i64 (ed)), (w2.heap.size, .bool nd, .string (nstr R), .int .i64 (nexp R (-1000)))]) (by assumption))).mono ?_; rintro r wr ⟨rfl, hb⟩; have hS := Sd.keep (w0 := w) (L := [(w.heap.size, .bool nd, .string sd, .int .i64 (ed)), (w2.heap.size, .bool nd, .string (nstr R), .int .i64 (nexp R (-1000)))]) (by assumption) hb; clear hb)
                | (go_at_call 13; refine (sigCount_u HUR.out rfl (Sd.pw (w0 := w) (L := [(w.heap.size, .bool nd, .string sd, .int .i64 (ed)), (w2.heap.size, .bool nd, .string (nstr R), .int .i64 (nexp R (-1000)))]) (by assumption))).mono ?_; rintro r wr ⟨rfl, hb⟩; have hS := Sd.keep (w0 := w) (L := [(w.heap.size, .bool nd, .string sd, .int .i64 (ed)), (w2.heap.size, .bool nd, .string (nstr R), .int .i64 (nexp R (-1000)))]) (by assumption) hb; clear hb)
                | (go_at_call 12; refine (ref5Top_u (by first | exact HUR.out | exact HU.out) (by first | exact HQ.out | exact HT.out) (Sd.pw (w0 := w) (L := [(w.heap.size, .bool nd, .string sd, .int .i64 (ed)), (w2.heap.size, .bool nd, .string (nstr R), .int .i64 (nexp R (-1000)))]) (by assumption))).mono ?_; rintro r wr ⟨rfl, hb⟩; have hS := Sd.keep (w0 := w) (L := [(w.heap.size, .bool nd, .string sd, .int .i64 (ed)), (w2.heap.size, .bool nd, .string (nstr R), .int .i64 (nexp R (-1000)))]) (by assumption) hb; clear hb))
            rename_i hHeld
            clear hHeld
            have HB := Lib.hid hS.bel
            clear hS
            clear hwT
            go_wp2
            go_ret
            exact ⟨rfl, HB.out⟩
end Go.Proofs.YtkfjombeaidimaaDoor
