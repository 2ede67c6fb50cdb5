/-
  IncOrders: the walk.
-/
import Derived.Test.YtekanlcfgfllcaaDoorIn10
set_option maxRecDepth 100000
namespace Go.Proofs.YtekanlcfgfllcaaDoor
open Go.RowKit
attribute [local go_sem] dec_field0 dec_field1 dec_field2 in
set_option maxHeartbeats 16000000 in
set_option maxRecDepth 100000 in
theorem walk_incOrders (m : Int) (nx : Bool) (sx : ByteArray) (ex : Int) (ny : Bool) (sy : ByteArray) (ey : Int) (t : ByteArray) (a : Int) (w : World) (hm : -9223372036854775808 ≤ m ∧ m ≤ 9223372036854775807) (hx : sx.size ≤ maxLen) (hy : sy.size ≤ maxLen) (ht : t.size ≤ maxLen) (ha : -9223372036854775808 ≤ a ∧ a ≤ 9223372036854775807) (hP : Pw w) :
    Calls Tryd.prog 5 #[.int .i64 m, .agg #[.bool nx, .string sx, .int .i64 ex], .agg #[.bool ny, .string sy, .int .i64 ey], .string t, .int .i64 a] w fun e w' => e = .returned (.bool true) ∧ Below w.heap.size w w' := by
  have HK := Lib.hid (kept_two w (.bool nx) (.string sx) (.int .i64 ex) (.bool ny) (.string sy) (.int .i64 ey) 23 hP)
  clear hP
  have HGX := Lib.hid (fun w hP => good10_c nx sx ex a w hx hP)
  have HGY := Lib.hid (fun w hP => good10_c ny sy ey a w hy hP)
  have HMAY := Lib.hid (fun w => may10_c t w ht)
  rcases hgx : g10 sx ex a with _ | _
  · rw [hgx] at HGX
    clear hgx
    go_enter Tryd.func5, Tryd.ntmps5
    go_wp2_with fail
    refine (HGX.out _ HK.out.1).mono ?_
    rintro r w1 ⟨rfl, hb⟩
    have hk := HK.out.keep hb
    replace HK := Lib.hid hk
    clear hk hb
    obtain ⟨⟨⟨c00, c01, c02⟩, ⟨c10, c11, c12⟩, -⟩, -⟩ := Sd.of HK.out
    go_wp2_with fail
    refine (answers10_c _ HK.out.1).mono ?_
    rintro r w2 ⟨rfl, hb⟩
    clear c00 c01 c02 c10 c11 c12
    have hk := HK.out.keep hb
    replace HK := Lib.hid hk
    clear hk hb
    obtain ⟨⟨⟨c00, c01, c02⟩, ⟨c10, c11, c12⟩, -⟩, -⟩ := Sd.of HK.out
    go_wp2
    go_ret
    exact ⟨rfl, HK.out.2.1⟩
  · rw [hgx] at HGX
    obtain ⟨hfx, ha1, ha2, hx1, hx2⟩ := g10_true hgx
    obtain ⟨X, hux, hlx⟩ := DU.of_fine (k := -100) hfx (by omega) (by omega) (by omega)
    have HUX := Lib.hid hux
    clear hgx hfx hux
    rcases hgy : g10 sy ey a with _ | _
    · rw [hgy] at HGY
      clear hgy
      go_enter Tryd.func5, Tryd.ntmps5
      go_wp2_with fail
      refine (HGX.out _ HK.out.1).mono ?_
      rintro r w1 ⟨rfl, hb⟩
      have hk := HK.out.keep hb
      replace HK := Lib.hid hk
      clear hk hb
      obtain ⟨⟨⟨c00, c01, c02⟩, ⟨c10, c11, c12⟩, -⟩, -⟩ := Sd.of HK.out
      go_wp2_with fail
      refine (HGY.out _ HK.out.1).mono ?_
      rintro r w2 ⟨rfl, hb⟩
      clear c00 c01 c02 c10 c11 c12
      have hk := HK.out.keep hb
      replace HK := Lib.hid hk
      clear hk hb
      obtain ⟨⟨⟨c00, c01, c02⟩, ⟨c10, c11, c12⟩, -⟩, -⟩ := Sd.of HK.out
      go_wp2_with fail
      refine (answers10_c _ HK.out.1).mono ?_
      rintro r w3 ⟨rfl, hb⟩
      clear c00 c01 c02 c10 c11 c12
      have hk := HK.out.keep hb
      replace HK := Lib.hid hk
      clear hk hb
      obtain ⟨⟨⟨c00, c01, c02⟩, ⟨c10, c11, c12⟩, -⟩, -⟩ := Sd.of HK.out
      go_wp2
      go_ret
      exact ⟨rfl, HK.out.2.1⟩
    · rw [hgy] at HGY
      obtain ⟨hfy, -, -, hy1, hy2⟩ := g10_true hgy
      obtain ⟨Y, huy, hly⟩ := DU.of_fine (k := -100) hfy (by omega) (by omega) (by omega)
      have HUY := Lib.hid huy
      clear hgy hfy huy
      by_cases hm1 : m < 0
      · go_enter Tryd.func5, Tryd.ntmps5
        go_wp2_with fail
        refine (HGX.out _ HK.out.1).mono ?_
        rintro r w1 ⟨rfl, hb⟩
        have hk := HK.out.keep hb
        replace HK := Lib.hid hk
        clear hk hb
        obtain ⟨⟨⟨c00, c01, c02⟩, ⟨c10, c11, c12⟩, -⟩, -⟩ := Sd.of HK.out
        go_wp2_with fail
        refine (HGY.out _ HK.out.1).mono ?_
        rintro r w2 ⟨rfl, hb⟩
        clear c00 c01 c02 c10 c11 c12
        have hk := HK.out.keep hb
        replace HK := Lib.hid hk
        clear hk hb
        obtain ⟨⟨⟨c00, c01, c02⟩, ⟨c10, c11, c12⟩, -⟩, -⟩ := Sd.of HK.out
        go_wp2_with fail
        refine (answers10_c _ HK.out.1).mono ?_
        rintro r w3 ⟨rfl, hb⟩
        clear c00 c01 c02 c10 c11 c12
        have hk := HK.out.keep hb
        replace HK := Lib.hid hk
        clear hk hb
        obtain ⟨⟨⟨c00, c01, c02⟩, ⟨c10, c11, c12⟩, -⟩, -⟩ := Sd.of HK.out
        go_wp2
        go_ret
        exact ⟨rfl, HK.out.2.1⟩
      · by_cases hm2 : 6 < m
        · go_enter Tryd.func5, Tryd.ntmps5
          go_wp2_with fail
          refine (HGX.out _ HK.out.1).mono ?_
          rintro r w1 ⟨rfl, hb⟩
          have hk := HK.out.keep hb
          replace HK := Lib.hid hk
          clear hk hb
          obtain ⟨⟨⟨c00, c01, c02⟩, ⟨c10, c11, c12⟩, -⟩, -⟩ := Sd.of HK.out
          go_wp2_with fail
          refine (HGY.out _ HK.out.1).mono ?_
          rintro r w2 ⟨rfl, hb⟩
          clear c00 c01 c02 c10 c11 c12
          have hk := HK.out.keep hb
          replace HK := Lib.hid hk
          clear hk hb
          obtain ⟨⟨⟨c00, c01, c02⟩, ⟨c10, c11, c12⟩, -⟩, -⟩ := Sd.of HK.out
          go_wp2_with fail
          refine (answers10_c _ HK.out.1).mono ?_
          rintro r w3 ⟨rfl, hb⟩
          clear c00 c01 c02 c10 c11 c12
          have hk := HK.out.keep hb
          replace HK := Lib.hid hk
          clear hk hb
          obtain ⟨⟨⟨c00, c01, c02⟩, ⟨c10, c11, c12⟩, -⟩, -⟩ := Sd.of HK.out
          go_wp2
          go_ret
          exact ⟨rfl, HK.out.2.1⟩
        · rcases hst : stepB t with _ | _
          · rw [hst] at HMAY
            clear hst
            go_enter Tryd.func5, Tryd.ntmps5
            go_wp2_with fail
            refine (HGX.out _ HK.out.1).mono ?_
            rintro r w1 ⟨rfl, hb⟩
            have hk := HK.out.keep hb
            replace HK := Lib.hid hk
            clear hk hb
            obtain ⟨⟨⟨c00, c01, c02⟩, ⟨c10, c11, c12⟩, -⟩, -⟩ := Sd.of HK.out
            go_wp2_with fail
            refine (HGY.out _ HK.out.1).mono ?_
            rintro r w2 ⟨rfl, hb⟩
            clear c00 c01 c02 c10 c11 c12
            have hk := HK.out.keep hb
            replace HK := Lib.hid hk
            clear hk hb
            obtain ⟨⟨⟨c00, c01, c02⟩, ⟨c10, c11, c12⟩, -⟩, -⟩ := Sd.of HK.out
            go_wp2_with fail
            refine (HMAY.out _).mono ?_
            rintro r w3 ⟨rfl, hb⟩
            clear c00 c01 c02 c10 c11 c12
            have hk := HK.out.keep hb
            replace HK := Lib.hid hk
            clear hk hb
            obtain ⟨⟨⟨c00, c01, c02⟩, ⟨c10, c11, c12⟩, -⟩, -⟩ := Sd.of HK.out
            go_wp2_with fail
            refine (answers10_c _ HK.out.1).mono ?_
            rintro r w4 ⟨rfl, hb⟩
            clear c00 c01 c02 c10 c11 c12
            have hk := HK.out.keep hb
            replace HK := Lib.hid hk
            clear hk hb
            obtain ⟨⟨⟨c00, c01, c02⟩, ⟨c10, c11, c12⟩, -⟩, -⟩ := Sd.of HK.out
            go_wp2
            go_ret
            exact ⟨rfl, HK.out.2.1⟩
          · rw [hst] at HMAY
            obtain ⟨hda, hS0, hSl⟩ := step_da hst
            obtain ⟨S, hS⟩ : ∃ S, dval (bdigs t) = S := ⟨_, rfl⟩
            rw [hS] at hda hS0 hSl
            have HST := Lib.hid hst
            have HSV := Lib.hid hS
            have HDA := Lib.hid hda
            have HT := Lib.hid ht
            have hWl := decs_pow_le S (a - -100).toNat _ hSl
            clear hst hS hda ht
            obtain ⟨C, hC⟩ : ∃ C, cmpZ (sv nx X) (sv ny Y) = C := ⟨_, rfl⟩
            have HC := Lib.hid (fun (w : World) (hP : Pw w) => refCmp_d (w := w) (HUX.out.dv nx) (HUY.out.dv ny) hC hP)
            by_cases hc0 : 0 < C
            · clear hC
              go_enter Tryd.func5, Tryd.ntmps5
              go_wp2_with fail
              refine (HGX.out _ HK.out.1).mono ?_
              rintro r w1 ⟨rfl, hb⟩
              have hk := HK.out.keep hb
              replace HK := Lib.hid hk
              clear hk hb
              obtain ⟨⟨⟨c00, c01, c02⟩, ⟨c10, c11, c12⟩, -⟩, -⟩ := Sd.of HK.out
              go_wp2_with fail
              refine (HGY.out _ HK.out.1).mono ?_
              rintro r w2 ⟨rfl, hb⟩
              clear c00 c01 c02 c10 c11 c12
              have hk := HK.out.keep hb
              replace HK := Lib.hid hk
              clear hk hb
              obtain ⟨⟨⟨c00, c01, c02⟩, ⟨c10, c11, c12⟩, -⟩, -⟩ := Sd.of HK.out
              go_wp2_with fail
              refine (HMAY.out _).mono ?_
              rintro r w3 ⟨rfl, hb⟩
              clear c00 c01 c02 c10 c11 c12
              have hk := HK.out.keep hb
              replace HK := Lib.hid hk
              clear hk hb
              obtain ⟨⟨⟨c00, c01, c02⟩, ⟨c10, c11, c12⟩, -⟩, -⟩ := Sd.of HK.out
              go_wp2_with fail
              refine (HC.out _ HK.out.1).mono ?_
              rintro r w4 ⟨rfl, hb⟩
              clear c00 c01 c02 c10 c11 c12
              have hk := HK.out.keep hb
              replace HK := Lib.hid hk
              clear hk hb
              obtain ⟨⟨⟨c00, c01, c02⟩, ⟨c10, c11, c12⟩, -⟩, -⟩ := Sd.of HK.out
              go_wp2_with fail
              refine (answers10_c _ HK.out.1).mono ?_
              rintro r w5 ⟨rfl, hb⟩
              clear c00 c01 c02 c10 c11 c12
              have hk := HK.out.keep hb
              replace HK := Lib.hid hk
              clear hk hb
              obtain ⟨⟨⟨c00, c01, c02⟩, ⟨c10, c11, c12⟩, -⟩, -⟩ := Sd.of HK.out
              go_wp2
              go_ret
              exact ⟨rfl, HK.out.2.1⟩
            · have hle : sv nx X ≤ sv ny Y := by rcases cmpZ_cases (sv nx X) (sv ny Y) with hh | hh | hh <;> omega
              clear hC
              have HWP := Lib.hid (show 0 < (S * 10 ^ (a - -100).toNat) from Nat.mul_pos hS0 (pow_pos10 _))
              obtain ⟨R, hR⟩ : ∃ R, rndN m nx X (S * 10 ^ (a - -100).toNat) = R := ⟨_, rfl⟩
              obtain ⟨T, hT⟩ : ∃ T, rndN m ny Y (S * 10 ^ (a - -100).toNat) = T := ⟨_, rfl⟩
              have hRl := rnd_len m nx (L := 900) (X := X) (by omega) (Nat.le_trans hWl (by omega)) HWP.out
              have hTl := rnd_len m ny (L := 900) (X := Y) (by omega) (Nat.le_trans hWl (by omega)) HWP.out
              have hmo := rnd_mono m HWP.out hle
              rw [hR] at hRl hmo
              rw [hT] at hTl hmo
              have HUR := Lib.hid (DU.z (k := -100) (X := R) (by omega) (by omega) (by omega))
              have HUT := Lib.hid (DU.z (k := -100) (X := T) (by omega) (by omega) (by omega))
              have HR := Lib.hid (fun (w : World) (hP : Pw w) => incRound_u (m := m) (n := nx) (p := a) (t := t) (v := .tuple #[.agg #[.bool nx, .string (nstr R), .int .i64 (nexp R (-100))], .int .i64 0]) (w := w) (isWay_true (by omega) (by omega)) HUX.out HST.out HSV.out HT.out (by omega) (by omega) rfl (by omega) (by rw [rndV_of (by omega), hR]) hP)
              have HQ := Lib.hid (fun (w : World) (hP : Pw w) => incRound_u (m := m) (n := ny) (p := a) (t := t) (v := .tuple #[.agg #[.bool ny, .string (nstr T), .int .i64 (nexp T (-100))], .int .i64 0]) (w := w) (isWay_true (by omega) (by omega)) HUY.out HST.out HSV.out HT.out (by omega) (by omega) rfl (by omega) (by rw [rndV_of (by omega), hT]) hP)
              obtain ⟨E, hE⟩ : ∃ E, cmpZ (sv nx R) (sv ny T) = E := ⟨_, rfl⟩
              have hE0 : E ≤ 0 := by rcases cmpZ_cases (sv nx R) (sv ny T) with hh | hh | hh <;> omega
              have HE := Lib.hid (fun (w : World) (hP : Pw w) => refCmp_d (w := w) (HUR.out.dv nx) (HUT.out.dv ny) hE hP)
              clear hE hR hT hRl hTl hmo hle hWl
              go_enter Tryd.func5, Tryd.ntmps5
              go_wp2_with fail
              refine (HGX.out _ HK.out.1).mono ?_
              rintro r w1 ⟨rfl, hb⟩
              have hk := HK.out.keep hb
              replace HK := Lib.hid hk
              clear hk hb
              obtain ⟨⟨⟨c00, c01, c02⟩, ⟨c10, c11, c12⟩, -⟩, -⟩ := Sd.of HK.out
              go_wp2_with fail
              refine (HGY.out _ HK.out.1).mono ?_
              rintro r w2 ⟨rfl, hb⟩
              clear c00 c01 c02 c10 c11 c12
              have hk := HK.out.keep hb
              replace HK := Lib.hid hk
              clear hk hb
              obtain ⟨⟨⟨c00, c01, c02⟩, ⟨c10, c11, c12⟩, -⟩, -⟩ := Sd.of HK.out
              go_wp2_with fail
              refine (HMAY.out _).mono ?_
              rintro r w3 ⟨rfl, hb⟩
              clear c00 c01 c02 c10 c11 c12
              have hk := HK.out.keep hb
              replace HK := Lib.hid hk
              clear hk hb
              obtain ⟨⟨⟨c00, c01, c02⟩, ⟨c10, c11, c12⟩, -⟩, -⟩ := Sd.of HK.out
              go_wp2_with fail
              refine (HC.out _ HK.out.1).mono ?_
              rintro r w4 ⟨rfl, hb⟩
              clear c00 c01 c02 c10 c11 c12
              have hk := HK.out.keep hb
              replace HK := Lib.hid hk
              clear hk hb
              obtain ⟨⟨⟨c00, c01, c02⟩, ⟨c10, c11, c12⟩, -⟩, -⟩ := Sd.of HK.out
              go_wp2_with fail
              refine (HR.out _ HK.out.1).mono ?_
              rintro r w5 ⟨rfl, hb⟩
              clear c00 c01 c02 c10 c11 c12
              have hk := HK.out.keep hb
              replace HK := Lib.hid hk
              clear hk hb
              replace HK := Lib.hid (show Kept3 w [(w.heap.size, .bool nx, .string sx, .int .i64 (ex)), (w.heap.size + 1, .bool ny, .string sy, .int .i64 (ey)), (w5.heap.size, .bool nx, .string (nstr R), .int .i64 (nexp R (-100)))] (w5.alloc (.cells #[.bool nx, .string (nstr R), .int .i64 (nexp R (-100))] 23)) from HK.out.grow _ _ _ _)
              obtain ⟨⟨⟨c00, c01, c02⟩, ⟨c10, c11, c12⟩, ⟨c20, c21, c22⟩, -⟩, -⟩ := Sd.of HK.out
              go_wp2_with fail
              refine (HQ.out _ HK.out.1).mono ?_
              rintro r w6 ⟨rfl, hb⟩
              clear c00 c01 c02 c10 c11 c12 c20 c21 c22
              have hk := HK.out.keep hb
              replace HK := Lib.hid hk
              clear hk hb
              replace HK := Lib.hid (show Kept3 w [(w.heap.size, .bool nx, .string sx, .int .i64 (ex)), (w.heap.size + 1, .bool ny, .string sy, .int .i64 (ey)), (w5.heap.size, .bool nx, .string (nstr R), .int .i64 (nexp R (-100))), (w6.heap.size, .bool ny, .string (nstr T), .int .i64 (nexp T (-100)))] (w6.alloc (.cells #[.bool ny, .string (nstr T), .int .i64 (nexp T (-100))] 23)) from HK.out.grow _ _ _ _)
              obtain ⟨⟨⟨c00, c01, c02⟩, ⟨c10, c11, c12⟩, ⟨c20, c21, c22⟩, ⟨c30, c31, c32⟩, -⟩, -⟩ := Sd.of HK.out
              go_wp2_with fail
              refine (answers10_c _ HK.out.1).mono ?_
              rintro r w7 ⟨rfl, hb⟩
              clear c00 c01 c02 c10 c11 c12 c20 c21 c22 c30 c31 c32
              have hk := HK.out.keep hb
              replace HK := Lib.hid hk
              clear hk hb
              obtain ⟨⟨⟨c00, c01, c02⟩, ⟨c10, c11, c12⟩, ⟨c20, c21, c22⟩, ⟨c30, c31, c32⟩, -⟩, -⟩ := Sd.of HK.out
              go_wp2_with fail
              refine (HE.out _ HK.out.1).mono ?_
              rintro r w8 ⟨rfl, hb⟩
              clear c00 c01 c02 c10 c11 c12 c20 c21 c22 c30 c31 c32
              have hk := HK.out.keep hb
              replace HK := Lib.hid hk
              clear hk hb
              obtain ⟨⟨⟨c00, c01, c02⟩, ⟨c10, c11, c12⟩, ⟨c20, c21, c22⟩, ⟨c30, c31, c32⟩, -⟩, -⟩ := Sd.of HK.out
              go_wp2
              go_ret
              exact ⟨rfl, HK.out.2.1⟩
end Go.Proofs.YtekanlcfgfllcaaDoor
