/-
  SigOrders: the walk.
-/
import Derived.Test.YtkfjombeaidimaaDoorAn9
set_option maxRecDepth 100000
namespace Go.Proofs.YtkfjombeaidimaaDoor
open Go.RowKit
attribute [local go_sem] dec_field0 dec_field1 dec_field2 in
set_option maxHeartbeats 16000000 in
set_option maxRecDepth 100000 in
theorem walk_sigOrders (m : Int) (nx : Bool) (sx : ByteArray) (ex : Int) (ny : Bool) (sy : ByteArray) (ey : Int) (n : Int) (w : World) (hm : -9223372036854775808 ≤ m ∧ m ≤ 9223372036854775807) (hx : sx.size ≤ maxLen) (hy : sy.size ≤ maxLen) (hn : 0 ≤ n ∧ n ≤ 255) (hP : Pw w) :
    Calls Tryd.prog 5 #[.int .i64 m, .agg #[.bool nx, .string sx, .int .i64 ex], .agg #[.bool ny, .string sy, .int .i64 ey], .int .u8 n] w fun e w' => e = .returned (.bool true) ∧ Below w.heap.size w w' := by
  obtain ⟨j, hj1⟩ : ∃ j : Int, n.tmod 40 = j := ⟨_, rfl⟩
  have hj2 : n % 40 = j := by rw [← hj1, Int.tmod_eq_emod_of_nonneg (by omega)]
  have hj0 : 0 ≤ j ∧ j < 40 := by omega
  obtain ⟨hj3, hj4⟩ := hj0
  obtain ⟨N, hN⟩ : ∃ N : Nat, j + 1 = (N : Int) := ⟨(j + 1).toNat, by omega⟩
  have hwN : IntKind.i64.wrap (j + 1) = N := by rw [hN]; exact IntWalk.i64_in _ (by omega)
  have hN1 : 1 ≤ N := by omega
  have hN2 : N ≤ 40 := by omega
  have HK := Lib.hid (kept_two w (.bool nx) (.string sx) (.int .i64 ex) (.bool ny) (.string sy) (.int .i64 ey) 23 hP)
  clear hP
  have HGX := Lib.hid (fun w hP => good09_c nx sx ex w hx hP)
  have HGY := Lib.hid (fun w hP => good09_c ny sy ey w hy hP)
  rcases hgx : g9 sx ex with _ | _
  · rw [hgx] at HGX
    clear hgx
    go_enter Tryd.func5, Tryd.ntmps5
    go_wp2_with fail
    refine (HGX.out _ HK.out.1).mono ?_
    rintro r w1 ⟨rfl, hb⟩
    have hk := HK.out.keep hb
    replace HK := Lib.hid hk
    clear hk hb
    obtain ⟨⟨⟨c00, c01, c02⟩, ⟨c10, c11, c12⟩, -⟩, -⟩ := Sd.of HK.out
    go_wp2_with fail
    refine (answers09_c _ HK.out.1).mono ?_
    rintro r w2 ⟨rfl, hb⟩
    clear c00 c01 c02 c10 c11 c12
    have hk := HK.out.keep hb
    replace HK := Lib.hid hk
    clear hk hb
    obtain ⟨⟨⟨c00, c01, c02⟩, ⟨c10, c11, c12⟩, -⟩, -⟩ := Sd.of HK.out
    go_wp2
    go_ret
    exact ⟨rfl, HK.out.2.1⟩
  · rw [hgx] at HGX
    obtain ⟨hfx, hx1, hx2⟩ := g9_true hgx
    obtain ⟨X, hux, hlx⟩ := DU.of_fine (k := -1000) hfx (by omega) (by omega) (by omega)
    have HUX := Lib.hid hux
    have HDGX := Lib.hid hux.digits
    clear hgx hfx hux
    rcases hgy : g9 sy ey with _ | _
    · rw [hgy] at HGY
      clear hgy
      go_enter Tryd.func5, Tryd.ntmps5
      go_wp2_with fail
      refine (HGX.out _ HK.out.1).mono ?_
      rintro r w1 ⟨rfl, hb⟩
      have hk := HK.out.keep hb
      replace HK := Lib.hid hk
      clear hk hb
      obtain ⟨⟨⟨c00, c01, c02⟩, ⟨c10, c11, c12⟩, -⟩, -⟩ := Sd.of HK.out
      go_wp2_with fail
      refine (HGY.out _ HK.out.1).mono ?_
      rintro r w2 ⟨rfl, hb⟩
      clear c00 c01 c02 c10 c11 c12
      have hk := HK.out.keep hb
      replace HK := Lib.hid hk
      clear hk hb
      obtain ⟨⟨⟨c00, c01, c02⟩, ⟨c10, c11, c12⟩, -⟩, -⟩ := Sd.of HK.out
      go_wp2_with fail
      refine (answers09_c _ HK.out.1).mono ?_
      rintro r w3 ⟨rfl, hb⟩
      clear c00 c01 c02 c10 c11 c12
      have hk := HK.out.keep hb
      replace HK := Lib.hid hk
      clear hk hb
      obtain ⟨⟨⟨c00, c01, c02⟩, ⟨c10, c11, c12⟩, -⟩, -⟩ := Sd.of HK.out
      go_wp2
      go_ret
      exact ⟨rfl, HK.out.2.1⟩
    · rw [hgy] at HGY
      obtain ⟨hfy, hy1, hy2⟩ := g9_true hgy
      obtain ⟨Y, huy, hly⟩ := DU.of_fine (k := -1000) hfy (by omega) (by omega) (by omega)
      have HUY := Lib.hid huy
      have HDGY := Lib.hid huy.digits
      clear hgy hfy huy
      by_cases hm1 : m < 0
      · go_enter Tryd.func5, Tryd.ntmps5
        go_wp2_with fail
        refine (HGX.out _ HK.out.1).mono ?_
        rintro r w1 ⟨rfl, hb⟩
        have hk := HK.out.keep hb
        replace HK := Lib.hid hk
        clear hk hb
        obtain ⟨⟨⟨c00, c01, c02⟩, ⟨c10, c11, c12⟩, -⟩, -⟩ := Sd.of HK.out
        go_wp2_with fail
        refine (HGY.out _ HK.out.1).mono ?_
        rintro r w2 ⟨rfl, hb⟩
        clear c00 c01 c02 c10 c11 c12
        have hk := HK.out.keep hb
        replace HK := Lib.hid hk
        clear hk hb
        obtain ⟨⟨⟨c00, c01, c02⟩, ⟨c10, c11, c12⟩, -⟩, -⟩ := Sd.of HK.out
        go_wp2_with fail
        refine (answers09_c _ HK.out.1).mono ?_
        rintro r w3 ⟨rfl, hb⟩
        clear c00 c01 c02 c10 c11 c12
        have hk := HK.out.keep hb
        replace HK := Lib.hid hk
        clear hk hb
        obtain ⟨⟨⟨c00, c01, c02⟩, ⟨c10, c11, c12⟩, -⟩, -⟩ := Sd.of HK.out
        go_wp2
        go_ret
        exact ⟨rfl, HK.out.2.1⟩
      · by_cases hm2 : 6 < m
        · go_enter Tryd.func5, Tryd.ntmps5
          go_wp2_with fail
          refine (HGX.out _ HK.out.1).mono ?_
          rintro r w1 ⟨rfl, hb⟩
          have hk := HK.out.keep hb
          replace HK := Lib.hid hk
          clear hk hb
          obtain ⟨⟨⟨c00, c01, c02⟩, ⟨c10, c11, c12⟩, -⟩, -⟩ := Sd.of HK.out
          go_wp2_with fail
          refine (HGY.out _ HK.out.1).mono ?_
          rintro r w2 ⟨rfl, hb⟩
          clear c00 c01 c02 c10 c11 c12
          have hk := HK.out.keep hb
          replace HK := Lib.hid hk
          clear hk hb
          obtain ⟨⟨⟨c00, c01, c02⟩, ⟨c10, c11, c12⟩, -⟩, -⟩ := Sd.of HK.out
          go_wp2_with fail
          refine (answers09_c _ HK.out.1).mono ?_
          rintro r w3 ⟨rfl, hb⟩
          clear c00 c01 c02 c10 c11 c12
          have hk := HK.out.keep hb
          replace HK := Lib.hid hk
          clear hk hb
          obtain ⟨⟨⟨c00, c01, c02⟩, ⟨c10, c11, c12⟩, -⟩, -⟩ := Sd.of HK.out
          go_wp2
          go_ret
          exact ⟨rfl, HK.out.2.1⟩
        · obtain ⟨C, hC⟩ : ∃ C, cmpZ (sv nx X) (sv ny Y) = C := ⟨_, rfl⟩
          have HC := Lib.hid (fun (w : World) (hP : Pw w) => refCmp_d (w := w) (HUX.out.dv nx) (HUY.out.dv ny) hC hP)
          by_cases hc0 : 0 < C
          · clear hC
            go_enter Tryd.func5, Tryd.ntmps5
            go_wp2_with fail
            refine (HGX.out _ HK.out.1).mono ?_
            rintro r w1 ⟨rfl, hb⟩
            have hk := HK.out.keep hb
            replace HK := Lib.hid hk
            clear hk hb
            obtain ⟨⟨⟨c00, c01, c02⟩, ⟨c10, c11, c12⟩, -⟩, -⟩ := Sd.of HK.out
            go_wp2_with fail
            refine (HGY.out _ HK.out.1).mono ?_
            rintro r w2 ⟨rfl, hb⟩
            clear c00 c01 c02 c10 c11 c12
            have hk := HK.out.keep hb
            replace HK := Lib.hid hk
            clear hk hb
            obtain ⟨⟨⟨c00, c01, c02⟩, ⟨c10, c11, c12⟩, -⟩, -⟩ := Sd.of HK.out
            go_wp2_with fail
            refine (HC.out _ HK.out.1).mono ?_
            rintro r w3 ⟨rfl, hb⟩
            clear c00 c01 c02 c10 c11 c12
            have hk := HK.out.keep hb
            replace HK := Lib.hid hk
            clear hk hb
            obtain ⟨⟨⟨c00, c01, c02⟩, ⟨c10, c11, c12⟩, -⟩, -⟩ := Sd.of HK.out
            go_wp2_with fail
            refine (answers09_c _ HK.out.1).mono ?_
            rintro r w4 ⟨rfl, hb⟩
            clear c00 c01 c02 c10 c11 c12
            have hk := HK.out.keep hb
            replace HK := Lib.hid hk
            clear hk hb
            obtain ⟨⟨⟨c00, c01, c02⟩, ⟨c10, c11, c12⟩, -⟩, -⟩ := Sd.of HK.out
            go_wp2
            go_ret
            exact ⟨rfl, HK.out.2.1⟩
          · have hle : sv nx X ≤ sv ny Y := by rcases cmpZ_cases (sv nx X) (sv ny Y) with hh | hh | hh <;> omega
            clear hC
            obtain ⟨hsX, haX, hbX⟩ := sg_place (X := X) (n := N) (by omega) (by omega) (fun h0 => by have := HDGX.out h0; omega)
            obtain ⟨pX, hpX⟩ : ∃ p, dtop (X) (-1000) - (N : Nat) + 1 = p := ⟨_, rfl⟩
            have HSX := Lib.hid (sgW_of hpX hsX)
            rw [hpX] at haX hbX
            clear hsX
            obtain ⟨hsY, haY, hbY⟩ := sg_place (X := Y) (n := N) (by omega) (by omega) (fun h0 => by have := HDGY.out h0; omega)
            obtain ⟨pY, hpY⟩ : ∃ p, dtop (Y) (-1000) - (N : Nat) + 1 = p := ⟨_, rfl⟩
            have HSY := Lib.hid (sgW_of hpY hsY)
            rw [hpY] at haY hbY
            clear hsY
            obtain ⟨R, hR⟩ : ∃ R, rndN m nx X (10 ^ (pX - -1000).toNat) = R := ⟨_, rfl⟩
            obtain ⟨T, hT⟩ : ∃ T, rndN m ny Y (10 ^ (pY - -1000).toNat) = T := ⟨_, rfl⟩
            have hRl := rnd_len m nx (L := 1450) (X := X) (by omega) (Nat.le_trans (pow_len (pX - -1000).toNat) (by omega)) (pow_pos10 _)
            have hTl := rnd_len m ny (L := 1450) (X := Y) (by omega) (Nat.le_trans (pow_len (pY - -1000).toNat) (by omega)) (pow_pos10 _)
            have hmo := sgW_mono m hN1 HSX.out HSY.out hle
            have hRd : R ≠ 0 → 301 < (decs R).length := fun hr0 => by
              by_cases hx0 : X = 0
              · subst hx0; rw [rndN_zero] at hR; exact absurd hR.symm hr0
              · have h1 := (sgW_ge m nx hN1 HSX.out hx0).2.1
                have h2 := HDGX.out hx0
                rw [hR] at h1
                omega
            obtain ⟨hsR, haR, hbR⟩ := sg_place (X := R) (n := N) (by omega) (by omega) (hRd)
            obtain ⟨pR, hpR⟩ : ∃ p, dtop (R) (-1000) - (N : Nat) + 1 = p := ⟨_, rfl⟩
            have HSR := Lib.hid (sgW_of hpR hsR)
            rw [hpR] at haR hbR
            clear hsR
            have hag := sgW_again (V := (10 ^ (pR - -1000).toNat)) m m nx nx hN1 HSX.out (by rw [hR]; exact HSR.out)
            rw [hR] at hRl hmo hag
            rw [hT] at hTl hmo
            have HUR := Lib.hid (DU.z (k := -1000) (X := R) (by omega) (by omega) (by omega))
            have HUT := Lib.hid (DU.z (k := -1000) (X := T) (by omega) (by omega) (by omega))
            have HR := Lib.hid (fun (w : World) (hP : Pw w) => sigRound_u (m := m) (n := nx) (a := N) (w := w) (v := .tuple #[.agg #[.bool nx, .string (nstr R), .int .i64 (nexp R (-1000))], .int .i64 0]) (isWay_true (by omega) (by omega)) HUX.out (by omega) (by omega) hpX haX (by omega) rfl (by rw [rndV_of (by omega), hR]) hP)
            have HT := Lib.hid (fun (w : World) (hP : Pw w) => sigRound_u (m := m) (n := ny) (a := N) (w := w) (v := .tuple #[.agg #[.bool ny, .string (nstr T), .int .i64 (nexp T (-1000))], .int .i64 0]) (isWay_true (by omega) (by omega)) HUY.out (by omega) (by omega) hpY haY (by omega) rfl (by rw [rndV_of (by omega), hT]) hP)
            have HZ := Lib.hid (fun (w : World) (hP : Pw w) => sigRound_u (m := m) (n := nx) (a := N) (w := w) (v := .tuple #[.agg #[.bool nx, .string (nstr R), .int .i64 (nexp R (-1000))], .int .i64 0]) (isWay_true (by omega) (by omega)) HUR.out (by omega) (by omega) hpR haR (by omega) rfl (by rw [rndV_of (by omega), hag]) hP)
            obtain ⟨E, hE⟩ : ∃ E, cmpZ (sv nx R) (sv ny T) = E := ⟨_, rfl⟩
            have hE0 : E ≤ 0 := by rcases cmpZ_cases (sv nx R) (sv ny T) with hh | hh | hh <;> omega
            have HE := Lib.hid (fun (w : World) (hP : Pw w) => refCmp_d (w := w) (HUR.out.dv nx) (HUT.out.dv ny) hE hP)
            clear hE hR hT hRl hTl hmo hag hle hRd
            go_enter Tryd.func5, Tryd.ntmps5
            go_wp2_with fail
            refine (HGX.out _ HK.out.1).mono ?_
            rintro r w1 ⟨rfl, hb⟩
            have hk := HK.out.keep hb
            replace HK := Lib.hid hk
            clear hk hb
            obtain ⟨⟨⟨c00, c01, c02⟩, ⟨c10, c11, c12⟩, -⟩, -⟩ := Sd.of HK.out
            go_wp2_with fail
            refine (HGY.out _ HK.out.1).mono ?_
            rintro r w2 ⟨rfl, hb⟩
            clear c00 c01 c02 c10 c11 c12
            have hk := HK.out.keep hb
            replace HK := Lib.hid hk
            clear hk hb
            obtain ⟨⟨⟨c00, c01, c02⟩, ⟨c10, c11, c12⟩, -⟩, -⟩ := Sd.of HK.out
            go_wp2_with fail
            refine (HC.out _ HK.out.1).mono ?_
            rintro r w3 ⟨rfl, hb⟩
            clear c00 c01 c02 c10 c11 c12
            have hk := HK.out.keep hb
            replace HK := Lib.hid hk
            clear hk hb
            obtain ⟨⟨⟨c00, c01, c02⟩, ⟨c10, c11, c12⟩, -⟩, -⟩ := Sd.of HK.out
            go_wp2_with fail
            refine (HR.out _ HK.out.1).mono ?_
            rintro r w4 ⟨rfl, hb⟩
            clear c00 c01 c02 c10 c11 c12
            have hk := HK.out.keep hb
            replace HK := Lib.hid hk
            clear hk hb
            replace HK := Lib.hid (show Kept3 w [(w.heap.size, .bool nx, .string sx, .int .i64 (ex)), (w.heap.size + 1, .bool ny, .string sy, .int .i64 (ey)), (w4.heap.size, .bool nx, .string (nstr R), .int .i64 (nexp R (-1000)))] (w4.alloc (.cells #[.bool nx, .string (nstr R), .int .i64 (nexp R (-1000))] 23)) from HK.out.grow _ _ _ _)
            obtain ⟨⟨⟨c00, c01, c02⟩, ⟨c10, c11, c12⟩, ⟨c20, c21, c22⟩, -⟩, -⟩ := Sd.of HK.out
            go_wp2_with fail
            refine (HT.out _ HK.out.1).mono ?_
            rintro r w5 ⟨rfl, hb⟩
            clear c00 c01 c02 c10 c11 c12 c20 c21 c22
            have hk := HK.out.keep hb
            replace HK := Lib.hid hk
            clear hk hb
            replace HK := Lib.hid (show Kept3 w [(w.heap.size, .bool nx, .string sx, .int .i64 (ex)), (w.heap.size + 1, .bool ny, .string sy, .int .i64 (ey)), (w4.heap.size, .bool nx, .string (nstr R), .int .i64 (nexp R (-1000))), (w5.heap.size, .bool ny, .string (nstr T), .int .i64 (nexp T (-1000)))] (w5.alloc (.cells #[.bool ny, .string (nstr T), .int .i64 (nexp T (-1000))] 23)) from HK.out.grow _ _ _ _)
            obtain ⟨⟨⟨c00, c01, c02⟩, ⟨c10, c11, c12⟩, ⟨c20, c21, c22⟩, ⟨c30, c31, c32⟩, -⟩, -⟩ := Sd.of HK.out
            go_wp2_with fail
            refine (HZ.out _ HK.out.1).mono ?_
            rintro r w6 ⟨rfl, hb⟩
            clear c00 c01 c02 c10 c11 c12 c20 c21 c22 c30 c31 c32
            have hk := HK.out.keep hb
            replace HK := Lib.hid hk
            clear hk hb
            replace HK := Lib.hid (show Kept3 w [(w.heap.size, .bool nx, .string sx, .int .i64 (ex)), (w.heap.size + 1, .bool ny, .string sy, .int .i64 (ey)), (w4.heap.size, .bool nx, .string (nstr R), .int .i64 (nexp R (-1000))), (w5.heap.size, .bool ny, .string (nstr T), .int .i64 (nexp T (-1000))), (w6.heap.size, .bool nx, .string (nstr R), .int .i64 (nexp R (-1000)))] (w6.alloc (.cells #[.bool nx, .string (nstr R), .int .i64 (nexp R (-1000))] 23)) from HK.out.grow _ _ _ _)
            obtain ⟨⟨⟨c00, c01, c02⟩, ⟨c10, c11, c12⟩, ⟨c20, c21, c22⟩, ⟨c30, c31, c32⟩, ⟨c40, c41, c42⟩, -⟩, -⟩ := Sd.of HK.out
            go_wp2_with fail
            refine (answers09_c _ HK.out.1).mono ?_
            rintro r w7 ⟨rfl, hb⟩
            clear c00 c01 c02 c10 c11 c12 c20 c21 c22 c30 c31 c32 c40 c41 c42
            have hk := HK.out.keep hb
            replace HK := Lib.hid hk
            clear hk hb
            obtain ⟨⟨⟨c00, c01, c02⟩, ⟨c10, c11, c12⟩, ⟨c20, c21, c22⟩, ⟨c30, c31, c32⟩, ⟨c40, c41, c42⟩, -⟩, -⟩ := Sd.of HK.out
            go_wp2_with fail
            refine (HE.out _ HK.out.1).mono ?_
            rintro r w8 ⟨rfl, hb⟩
            clear c00 c01 c02 c10 c11 c12 c20 c21 c22 c30 c31 c32 c40 c41 c42
            have hk := HK.out.keep hb
            replace HK := Lib.hid hk
            clear hk hb
            obtain ⟨⟨⟨c00, c01, c02⟩, ⟨c10, c11, c12⟩, ⟨c20, c21, c22⟩, ⟨c30, c31, c32⟩, ⟨c40, c41, c42⟩, -⟩, -⟩ := Sd.of HK.out
            go_wp2
            go_ret
            exact ⟨rfl, HK.out.2.1⟩
end Go.Proofs.YtkfjombeaidimaaDoor
