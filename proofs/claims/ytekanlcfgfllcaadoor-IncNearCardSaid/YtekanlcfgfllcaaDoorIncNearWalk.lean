/-
  IncNear: the walk.
-/
import Derived.Test.YtekanlcfgfllcaaDoorIn10
import Derived.Deep.DeepCutAuto
set_option linter.unusedSimpArgs false
set_option maxRecDepth 100000
namespace Go.Proofs.YtekanlcfgfllcaaDoor
open Go.RowKit
attribute [local go_sem] dec_field0 dec_field1 dec_field2 in
set_option maxHeartbeats 16000000 in
set_option maxRecDepth 100000 in
theorem walk_incNear (m : Int) (nd : Bool) (sd : ByteArray) (ed : Int) (t : ByteArray) (a : Int) (w : World) (hm : -9223372036854775808 ≤ m ∧ m ≤ 9223372036854775807) (hd : sd.size ≤ maxLen) (ht : t.size ≤ maxLen) (ha : -9223372036854775808 ≤ a ∧ a ≤ 9223372036854775807) (hP : Pw w) :
    Calls Tryd.prog 4 #[.int .i64 m, .agg #[.bool nd, .string sd, .int .i64 ed], .string t, .int .i64 a] w fun e w' => e = .returned (.bool true) ∧ Below w.heap.size w w' := by
  have HK := Lib.hid (kept_one w (.bool nd) (.string sd) (.int .i64 ed) 23 hP)
  clear hP
  have HG := Lib.hid (fun w hP => good10_c nd sd ed a w hd hP)
  have HMAY := Lib.hid (fun w => may10_c t w ht)
  rcases hg : g10 sd ed a with _ | _
  · rw [hg] at HG
    clear hg
    go_enter Tryd.func4, Tryd.ntmps4
    go_wp2_with fail
    refine (HG.out _ HK.out.1).mono ?_
    rintro r w1 ⟨rfl, hb⟩
    have hk := HK.out.keep hb
    replace HK := Lib.hid hk
    clear hk hb
    obtain ⟨⟨⟨c00, c01, c02⟩, -⟩, -⟩ := Sd.of HK.out
    go_wp2_with fail
    refine (answers10_c _ HK.out.1).mono ?_
    rintro r w2 ⟨rfl, hb⟩
    clear c00 c01 c02
    have hk := HK.out.keep hb
    replace HK := Lib.hid hk
    clear hk hb
    obtain ⟨⟨⟨c00, c01, c02⟩, -⟩, -⟩ := Sd.of HK.out
    go_wp2
    go_ret
    exact ⟨rfl, HK.out.2.1⟩
  · rw [hg] at HG
    obtain ⟨hf, ha1, ha2, he1, he2⟩ := g10_true hg
    obtain ⟨X, hu, hl⟩ := DU.of_fine (k := -100) hf (by omega) (by omega) (by omega)
    have HU := Lib.hid hu
    clear hg hf hu
    by_cases hm1 : m < 0
    · go_enter Tryd.func4, Tryd.ntmps4
      go_wp2_with fail
      refine (HG.out _ HK.out.1).mono ?_
      rintro r w1 ⟨rfl, hb⟩
      have hk := HK.out.keep hb
      replace HK := Lib.hid hk
      clear hk hb
      obtain ⟨⟨⟨c00, c01, c02⟩, -⟩, -⟩ := Sd.of HK.out
      go_wp2_with fail
      refine (answers10_c _ HK.out.1).mono ?_
      rintro r w2 ⟨rfl, hb⟩
      clear c00 c01 c02
      have hk := HK.out.keep hb
      replace HK := Lib.hid hk
      clear hk hb
      obtain ⟨⟨⟨c00, c01, c02⟩, -⟩, -⟩ := Sd.of HK.out
      go_wp2
      go_ret
      exact ⟨rfl, HK.out.2.1⟩
    · by_cases hm2 : 6 < m
      · go_enter Tryd.func4, Tryd.ntmps4
        go_wp2_with fail
        refine (HG.out _ HK.out.1).mono ?_
        rintro r w1 ⟨rfl, hb⟩
        have hk := HK.out.keep hb
        replace HK := Lib.hid hk
        clear hk hb
        obtain ⟨⟨⟨c00, c01, c02⟩, -⟩, -⟩ := Sd.of HK.out
        go_wp2_with fail
        refine (answers10_c _ HK.out.1).mono ?_
        rintro r w2 ⟨rfl, hb⟩
        clear c00 c01 c02
        have hk := HK.out.keep hb
        replace HK := Lib.hid hk
        clear hk hb
        obtain ⟨⟨⟨c00, c01, c02⟩, -⟩, -⟩ := Sd.of HK.out
        go_wp2
        go_ret
        exact ⟨rfl, HK.out.2.1⟩
      · rcases hst : stepB t with _ | _
        · rw [hst] at HMAY
          clear hst
          go_enter Tryd.func4, Tryd.ntmps4
          go_wp2_with fail
          refine (HG.out _ HK.out.1).mono ?_
          rintro r w1 ⟨rfl, hb⟩
          have hk := HK.out.keep hb
          replace HK := Lib.hid hk
          clear hk hb
          obtain ⟨⟨⟨c00, c01, c02⟩, -⟩, -⟩ := Sd.of HK.out
          go_wp2_with fail
          refine (HMAY.out _).mono ?_
          rintro r w2 ⟨rfl, hb⟩
          clear c00 c01 c02
          have hk := HK.out.keep hb
          replace HK := Lib.hid hk
          clear hk hb
          obtain ⟨⟨⟨c00, c01, c02⟩, -⟩, -⟩ := Sd.of HK.out
          go_wp2_with fail
          refine (answers10_c _ HK.out.1).mono ?_
          rintro r w3 ⟨rfl, hb⟩
          clear c00 c01 c02
          have hk := HK.out.keep hb
          replace HK := Lib.hid hk
          clear hk hb
          obtain ⟨⟨⟨c00, c01, c02⟩, -⟩, -⟩ := Sd.of HK.out
          go_wp2
          go_ret
          exact ⟨rfl, HK.out.2.1⟩
        · rw [hst] at HMAY
          obtain ⟨hda, hS0, hSl⟩ := step_da hst
          obtain ⟨S, hS⟩ : ∃ S, dval (bdigs t) = S := ⟨_, rfl⟩
          rw [hS] at hda hS0 hSl
          have HST := Lib.hid hst
          have HSV := Lib.hid hS
          have HDA := Lib.hid hda
          have HT := Lib.hid ht
          have hWl := decs_pow_le S (a - -100).toNat _ hSl
          clear hst hS hda ht
          have HWP := Lib.hid (show 0 < (S * 10 ^ (a - -100).toNat) from Nat.mul_pos hS0 (pow_pos10 _))
          obtain ⟨R, hR⟩ : ∃ R, rndN m nd X (S * 10 ^ (a - -100).toNat) = R := ⟨_, rfl⟩
          have hRl := rnd_len m nd (L := 900) (X := X) (by omega) (Nat.le_trans hWl (by omega)) HWP.out
          have hoff := rnd_off m nd X (S * 10 ^ (a - -100).toNat) HWP.out
          have hRm := rndN_mod m nd X (S * 10 ^ (a - -100).toNat)
          have HHF := Lib.hid (show (m = 4 ∨ m = 5 ∨ m = 6) → _ from fun hm => rnd_half hm nd X (S * 10 ^ (a - -100).toNat) HWP.out)
          have HCE := Lib.hid (show m = 0 → sv nd X ≤ sv nd R from fun hm => by have := rnd_ceil nd X (S * 10 ^ (a - -100).toNat) HWP.out; rwa [← hm, hR] at this)
          have HFL := Lib.hid (show m = 1 → sv nd R ≤ sv nd X from fun hm => by have := rnd_floor nd X (S * 10 ^ (a - -100).toNat) HWP.out; rwa [← hm, hR] at this)
          have HR := Lib.hid (fun (w : World) (hP : Pw w) => incRound_u (m := m) (n := nd) (p := a) (t := t) (v := .tuple #[.agg #[.bool nd, .string (nstr R), .int .i64 (nexp R (-100))], .int .i64 0]) (w := w) (isWay_true (by omega) (by omega)) HU.out HST.out HSV.out HT.out (by omega) (by omega) rfl (by omega) (by rw [rndV_of (by omega), hR]) hP)
          rw [hR] at hRl hoff hRm HHF
          have HUR := Lib.hid (DU.z (k := -100) (X := R) (by omega) (by omega) (by omega))
          have HEX := Lib.hid (fun (w : World) (hP : Pw w) => incRound_u (m := 7) (n := nd) (p := a) (t := t) (v := .tuple #[.agg #[.bool nd, .string (nstr R), .int .i64 (nexp R (-100))], .int .i64 0]) (w := w) (isWay_true (by omega) (by omega)) HUR.out HST.out HSV.out HT.out (by omega) (by omega) rfl (by omega) (rndV_mult hRm) hP)
          obtain ⟨Z, hZ⟩ : ∃ Z, sv nd R + -sv nd X = Z := ⟨_, rfl⟩
          rw [← Int.sub_eq_add_neg] at hZ
          rw [hZ] at hoff HHF
          replace HCE := Lib.hid (show m = 0 → 0 ≤ Z from fun hm => by have := HCE.out hm; omega)
          replace HFL := Lib.hid (show m = 1 → Z ≤ 0 from fun hm => by have := HFL.out hm; omega)
          have HSU := Lib.hid (fun (w : World) (hP : Pw w) => refSum_d (w := w) (Z := Z) (HUR.out.dv nd) (HU.out.dv nd).turn (by omega) hP)
          have hZl : (decs Z.natAbs).length ≤ 1000 := by have := decs_length_le (Nat.le_of_lt hoff); omega
          have HUZ := Lib.hid (show DU (-100) (zstr Z) (zexp Z (-100)) Z.natAbs from DU.z (by omega) (by omega) (by omega))
          have HU1 := Lib.hid (DU.one (k := -100) (a := a) (W := (S * 10 ^ (a - -100).toNat)) HDA.out (by omega) (by omega) (by omega) rfl (by omega))
          have HP1 := Lib.hid (HUZ.out.dv false)
          have HO1 := Lib.hid (HU1.out.dv false)
          obtain ⟨Z2, hZ2⟩ : ∃ Z2, sv false Z.natAbs + sv false Z.natAbs = Z2 := ⟨_, rfl⟩
          have HS2 := Lib.hid (fun (w : World) (hP : Pw w) => refSum_d (w := w) (Z := Z2) HP1.out HP1.out hZ2 hP)
          have hz2 : Z2 = 2 * (Z.natAbs : Int) := by rw [← hZ2]; simp only [sv, Bool.false_eq_true, if_false]; omega
          have hZ2l : (decs Z2.natAbs).length ≤ 1001 := by rw [hz2, show (2 * (Z.natAbs : Int)).natAbs = Z.natAbs + Z.natAbs by omega]; exact decs_add hZl hZl
          have HP2 := Lib.hid (DV.z (k := -100) (Z := Z2) (by omega) (by omega) (by omega))
          have HC1 := Lib.hid (show cmpZ (sv false Z.natAbs) (sv false (S * 10 ^ (a - -100).toNat)) = -1 from cmpZ_lt (by simp only [sv, Bool.false_eq_true, if_false]; omega))
          obtain ⟨C2, hC2⟩ : ∃ C2, cmpZ Z2 (sv false (S * 10 ^ (a - -100).toNat)) = C2 := ⟨_, rfl⟩
          have HC2 := Lib.hid hC2
          have HC20 := Lib.hid (show (m = 4 ∨ m = 5 ∨ m = 6) → C2 ≤ 0 from fun hm => by
            have h2 := HHF.out hm
            simp only [sv, Bool.false_eq_true, if_false] at hC2
            rcases cmpZ_cases Z2 (((S * 10 ^ (a - -100).toNat) : Nat) : Int) with hh | hh | hh <;> omega)
          clear hR hRl hoff hRm hZ hZl hZ2 hz2 hZ2l hC2 HHF hWl hS0 hSl
          go_enter Tryd.func4, Tryd.ntmps4
          go_wp2_with fail
          refine (HG.out _ HK.out.1).mono ?_
          rintro r w1 ⟨rfl, hb⟩
          have hk := HK.out.keep hb
          replace HK := Lib.hid hk
          clear hk hb
          obtain ⟨⟨⟨c00, c01, c02⟩, -⟩, -⟩ := Sd.of HK.out
          go_wp2_with fail
          refine (HMAY.out _).mono ?_
          rintro r w2 ⟨rfl, hb⟩
          clear c00 c01 c02
          have hk := HK.out.keep hb
          replace HK := Lib.hid hk
          clear hk hb
          obtain ⟨⟨⟨c00, c01, c02⟩, -⟩, -⟩ := Sd.of HK.out
          go_wp2_with fail
          refine (HR.out _ HK.out.1).mono ?_
          rintro r w3 ⟨rfl, hb⟩
          clear c00 c01 c02
          have hk := HK.out.keep hb
          replace HK := Lib.hid hk
          clear hk hb
          replace HK := Lib.hid (show Kept3 w [(w.heap.size, .bool nd, .string sd, .int .i64 (ed)), (w3.heap.size, .bool nd, .string (nstr R), .int .i64 (nexp R (-100)))] (w3.alloc (.cells #[.bool nd, .string (nstr R), .int .i64 (nexp R (-100))] 23)) from HK.out.grow _ _ _ _)
          obtain ⟨⟨⟨c00, c01, c02⟩, ⟨c10, c11, c12⟩, -⟩, -⟩ := Sd.of HK.out
          go_wp2_with fail
          refine (HEX.out _ HK.out.1).mono ?_
          rintro r w4 ⟨rfl, hb⟩
          clear c00 c01 c02 c10 c11 c12
          have hk := HK.out.keep hb
          replace HK := Lib.hid hk
          clear hk hb
          replace HK := Lib.hid (show Kept3 w [(w.heap.size, .bool nd, .string sd, .int .i64 (ed)), (w3.heap.size, .bool nd, .string (nstr R), .int .i64 (nexp R (-100))), (w4.heap.size, .bool nd, .string (nstr R), .int .i64 (nexp R (-100)))] (w4.alloc (.cells #[.bool nd, .string (nstr R), .int .i64 (nexp R (-100))] 23)) from HK.out.grow _ _ _ _)
          obtain ⟨⟨⟨c00, c01, c02⟩, ⟨c10, c11, c12⟩, ⟨c20, c21, c22⟩, -⟩, -⟩ := Sd.of HK.out
          have hz0 := (HK.out.2.2 _ (.head _)).2.2.2.2.2.2
          have hz1 := (HK.out.2.2 _ (.tail _ (.head _))).2.2.2.2.2.2
          have hz2 := (HK.out.2.2 _ (.tail _ (.tail _ (.head _)))).2.2.2.2.2.2
          have hzw := HK.out.2.1.size
          have hP2 := HK.out.1.blk
          simp only [World.size_alloc] at hz0 hz1 hz2 hzw hP2
          clear c00 c01 c02 c10 c11 c12 c20 c21 c22
          go_wp2_with fail
          have hS : Sd w [(w.heap.size, .bool nd, .string sd, .int .i64 (ed)), (w3.heap.size, .bool nd, .string (nstr R), .int .i64 (nexp R (-100))), (w4.heap.size, .bool nd, .string (nstr R), .int .i64 (nexp R (-100)))] _ := .of HK.out
          go_cut [13] (OneMid w [(w.heap.size, .bool nd, .string sd, .int .i64 (ed)), (w3.heap.size, .bool nd, .string (nstr R), .int .i64 (nexp R (-100))), (w4.heap.size, .bool nd, .string (nstr R), .int .i64 (nexp R (-100)))] (.bool (zneg Z), .string (zstr Z), .int .i64 (zexp Z (-100))))
          case first =>
            go_region_held3 (fun w' => ((w'.cell? ⟨w.heap.size, 0, none⟩ = some (.bool nd) ∧ w'.cell? ⟨w.heap.size, 1, none⟩ = some (.string sd) ∧ w'.cell? ⟨w.heap.size, 2, none⟩ = some (.int .i64 (ed))) ∧ (w'.cell? ⟨w3.heap.size, 0, none⟩ = some (.bool nd) ∧ w'.cell? ⟨w3.heap.size, 1, none⟩ = some (.string (nstr R)) ∧ w'.cell? ⟨w3.heap.size, 2, none⟩ = some (.int .i64 (nexp R (-100)))) ∧ (w'.cell? ⟨w4.heap.size, 0, none⟩ = some (.bool nd) ∧ w'.cell? ⟨w4.heap.size, 1, none⟩ = some (.string (nstr R)) ∧ w'.cell? ⟨w4.heap.size, 2, none⟩ = some (.int .i64 (nexp R (-100)))) ∧ True) ∧ Hid (Kept3 w [(w.heap.size, .bool nd, .string sd, .int .i64 (ed)), (w3.heap.size, .bool nd, .string (nstr R), .int .i64 (nexp R (-100))), (w4.heap.size, .bool nd, .string (nstr R), .int .i64 (nexp R (-100)))] w')) (exact (Sd.keepB (B := w4.heap.size + 1) (w0 := w) (L := [(w.heap.size, .bool nd, .string sd, .int .i64 (ed)), (w3.heap.size, .bool nd, .string (nstr R), .int .i64 (nexp R (-100))), (w4.heap.size, .bool nd, .string (nstr R), .int .i64 (nexp R (-100)))]) hS (by (repeat' (first | with_reducible exact Below.refl _ _ | with_reducible refine Below.drew ?_ | with_reducible refine Below.setCell ?_ ?_ _ | with_reducible refine Below.alloc ?_ ?_ _ | exact Below.refl _ _)) <;> first | omega | ((try dsimp only); (try simp only [World.size_alloc, World.size_setCell, World.size_drew]); omega)) (by intro u hu; simp at hu; rcases hu with rfl | rfl | rfl <;> (dsimp only; omega)) (by omega) (by omega)))
              (first
              | (go_at_call 14; refine (ref5Turn_c _ _ _ _).mono ?_; rintro r wr ⟨rfl, hb⟩; have hS := Sd.keep (Sd.keepB (B := w4.heap.size + 1) (w0 := w) (L := [(w.heap.size, .bool nd, .string sd, .int .i64 (ed)), (w3.heap.size, .bool nd, .string (nstr R), .int .i64 (nexp R (-100))), (w4.heap.size, .bool nd, .string (nstr R), .int .i64 (nexp R (-100)))]) hS (by (repeat' (first | with_reducible exact Below.refl _ _ | with_reducible refine Below.drew ?_ | with_reducible refine Below.setCell ?_ ?_ _ | with_reducible refine Below.alloc ?_ ?_ _ | exact Below.refl _ _)) <;> first | omega | ((try dsimp only); (try simp only [World.size_alloc, World.size_setCell, World.size_drew]); omega)) (by intro u hu; simp at hu; rcases hu with rfl | rfl | rfl <;> (dsimp only; omega)) (by omega) (by omega)) hb; have hz := hb.size; (try simp only [World.size_alloc, World.size_drew] at hz); (first | (have BX2 := Lib.hid (BX.out.keep hb); clear BX; have BX := BX2; clear BX2) | (have BX := Lib.hid ((Box3.new _ _ _ _ _).keep hb)) | (have BX := Lib.hid ((Box3.new _ _ _ _ _).drew.keep hb)) | skip); (try obtain ⟨x0, x1, x2, xf0, xf1, xf2, xz⟩ := BX.out); (try simp only [World.size_alloc, World.size_drew] at x0 x1 x2 xf0 xf1 xf2 xz); clear hb)
              | (go_at_call 13; refine (HSU.out _ (Sd.pw (Sd.keepB (B := w4.heap.size + 1) (w0 := w) (L := [(w.heap.size, .bool nd, .string sd, .int .i64 (ed)), (w3.heap.size, .bool nd, .string (nstr R), .int .i64 (nexp R (-100))), (w4.heap.size, .bool nd, .string (nstr R), .int .i64 (nexp R (-100)))]) hS (by (repeat' (first | with_reducible exact Below.refl _ _ | with_reducible refine Below.drew ?_ | with_reducible refine Below.setCell ?_ ?_ _ | with_reducible refine Below.alloc ?_ ?_ _ | exact Below.refl _ _)) <;> first | omega | ((try dsimp only); (try simp only [World.size_alloc, World.size_setCell, World.size_drew]); omega)) (by intro u hu; simp at hu; rcases hu with rfl | rfl | rfl <;> (dsimp only; omega)) (by omega) (by omega)))).mono ?_; rintro r wr ⟨rfl, hb⟩; have hS := Sd.keep (Sd.keepB (B := w4.heap.size + 1) (w0 := w) (L := [(w.heap.size, .bool nd, .string sd, .int .i64 (ed)), (w3.heap.size, .bool nd, .string (nstr R), .int .i64 (nexp R (-100))), (w4.heap.size, .bool nd, .string (nstr R), .int .i64 (nexp R (-100)))]) hS (by (repeat' (first | with_reducible exact Below.refl _ _ | with_reducible refine Below.drew ?_ | with_reducible refine Below.setCell ?_ ?_ _ | with_reducible refine Below.alloc ?_ ?_ _ | exact Below.refl _ _)) <;> first | omega | ((try dsimp only); (try simp only [World.size_alloc, World.size_setCell, World.size_drew]); omega)) (by intro u hu; simp at hu; rcases hu with rfl | rfl | rfl <;> (dsimp only; omega)) (by omega) (by omega)) hb; have hz := hb.size; (try simp only [World.size_alloc, World.size_drew] at hz); (first | (have BX2 := Lib.hid (BX.out.keep hb); clear BX; have BX := BX2; clear BX2) | (have BX := Lib.hid ((Box3.new _ _ _ _ _).keep hb)) | (have BX := Lib.hid ((Box3.new _ _ _ _ _).drew.keep hb)) | skip); (try obtain ⟨x0, x1, x2, xf0, xf1, xf2, xz⟩ := BX.out); (try simp only [World.size_alloc, World.size_drew] at x0 x1 x2 xf0 xf1 xf2 xz); clear hb))
            all_goals
              go_wp2_with fail
              go_meet
              exact oneMid_of (Sd.keepB (B := w4.heap.size + 1) (w0 := w) (L := [(w.heap.size, .bool nd, .string sd, .int .i64 (ed)), (w3.heap.size, .bool nd, .string (nstr R), .int .i64 (nexp R (-100))), (w4.heap.size, .bool nd, .string (nstr R), .int .i64 (nexp R (-100)))]) hS (by (repeat' (first | with_reducible exact Below.refl _ _ | with_reducible refine Below.drew ?_ | with_reducible refine Below.setCell ?_ ?_ _ | with_reducible refine Below.alloc ?_ ?_ _ | exact Below.refl _ _)) <;> first | omega | ((try dsimp only); (try simp only [World.size_alloc, World.size_setCell, World.size_drew]); omega)) (by intro u hu; simp at hu; rcases hu with rfl | rfl | rfl <;> (dsimp only; omega)) (by omega) (by omega)) (by refine ⟨?_, ?_, ?_, ?_, ?_, ?_, ?_⟩ <;> first | go_simp | ((try simp only [World.size_alloc, World.size_setCell]); omega))
          case rest =>
            obtain ⟨g, rfl, hk⟩ := hcut
            have HK2 := Lib.hid (show Kept3 w [(w.heap.size, .bool nd, .string sd, .int .i64 (ed)), (w3.heap.size, .bool nd, .string (nstr R), .int .i64 (nexp R (-100))), (w4.heap.size, .bool nd, .string (nstr R), .int .i64 (nexp R (-100))), (g, .bool (zneg Z), .string (zstr Z), .int .i64 (zexp Z (-100)))] wc from hk)
            clear HK hS hk
            have HK := Lib.hid HK2.out
            clear HK2 hz0 hz1 hz2 hzw hP2
            obtain ⟨⟨⟨c00, c01, c02⟩, ⟨c10, c11, c12⟩, ⟨c20, c21, c22⟩, ⟨c30, c31, c32⟩, -⟩, -⟩ := Sd.of HK.out
            have HA := Lib.hid (show Kept3 w [(w.heap.size, .bool nd, .string sd, .int .i64 (ed)), (w3.heap.size, .bool nd, .string (nstr R), .int .i64 (nexp R (-100))), (w4.heap.size, .bool nd, .string (nstr R), .int .i64 (nexp R (-100))), (g, .bool (zneg Z), .string (zstr Z), .int .i64 (zexp Z (-100))), (wc.heap.size, .bool false, .string (zstr Z), .int .i64 (zexp Z (-100)))] (wc.alloc (.cells #[.bool false, .string (zstr Z), .int .i64 (zexp Z (-100))] 23)) from HK.out.grow _ _ _ _)
            have HB := Lib.hid (show Kept3 w [(w.heap.size, .bool nd, .string sd, .int .i64 (ed)), (w3.heap.size, .bool nd, .string (nstr R), .int .i64 (nexp R (-100))), (w4.heap.size, .bool nd, .string (nstr R), .int .i64 (nexp R (-100))), (g, .bool (zneg Z), .string (zstr Z), .int .i64 (zexp Z (-100))), (wc.heap.size, .bool false, .string (zstr Z), .int .i64 (zexp Z (-100))), (wc.heap.size + 1, .bool false, .string t, .int .i64 (a))] _ by have h3 := HA.out.grow (.bool false) (.string t) (.int .i64 a) 23; rwa [World.size_alloc] at h3)
            go_wp2_with fail
            clear c00 c01 c02 c10 c11 c12 c20 c21 c22 c30 c31 c32 HK HA
            have HK := Lib.hid HB.out
            clear HB
            by_cases h4 : 4 ≤ m
            · have hc2 := HC20.out (by omega)
              have hS : Sd w [(w.heap.size, .bool nd, .string sd, .int .i64 (ed)), (w3.heap.size, .bool nd, .string (nstr R), .int .i64 (nexp R (-100))), (w4.heap.size, .bool nd, .string (nstr R), .int .i64 (nexp R (-100))), (g, .bool (zneg Z), .string (zstr Z), .int .i64 (zexp Z (-100))), (wc.heap.size, .bool false, .string (zstr Z), .int .i64 (zexp Z (-100))), (wc.heap.size + 1, .bool false, .string t, .int .i64 (a))] _ := .of HK.out.drew
              go_region_held3 (fun w' => ((w'.cell? ⟨w.heap.size, 0, none⟩ = some (.bool nd) ∧ w'.cell? ⟨w.heap.size, 1, none⟩ = some (.string sd) ∧ w'.cell? ⟨w.heap.size, 2, none⟩ = some (.int .i64 (ed))) ∧ (w'.cell? ⟨w3.heap.size, 0, none⟩ = some (.bool nd) ∧ w'.cell? ⟨w3.heap.size, 1, none⟩ = some (.string (nstr R)) ∧ w'.cell? ⟨w3.heap.size, 2, none⟩ = some (.int .i64 (nexp R (-100)))) ∧ (w'.cell? ⟨w4.heap.size, 0, none⟩ = some (.bool nd) ∧ w'.cell? ⟨w4.heap.size, 1, none⟩ = some (.string (nstr R)) ∧ w'.cell? ⟨w4.heap.size, 2, none⟩ = some (.int .i64 (nexp R (-100)))) ∧ (w'.cell? ⟨g, 0, none⟩ = some (.bool (zneg Z)) ∧ w'.cell? ⟨g, 1, none⟩ = some (.string (zstr Z)) ∧ w'.cell? ⟨g, 2, none⟩ = some (.int .i64 (zexp Z (-100)))) ∧ (w'.cell? ⟨wc.heap.size, 0, none⟩ = some (.bool false) ∧ w'.cell? ⟨wc.heap.size, 1, none⟩ = some (.string (zstr Z)) ∧ w'.cell? ⟨wc.heap.size, 2, none⟩ = some (.int .i64 (zexp Z (-100)))) ∧ (w'.cell? ⟨wc.heap.size + 1, 0, none⟩ = some (.bool false) ∧ w'.cell? ⟨wc.heap.size + 1, 1, none⟩ = some (.string t) ∧ w'.cell? ⟨wc.heap.size + 1, 2, none⟩ = some (.int .i64 (a))) ∧ True) ∧ Hid (Kept3 w [(w.heap.size, .bool nd, .string sd, .int .i64 (ed)), (w3.heap.size, .bool nd, .string (nstr R), .int .i64 (nexp R (-100))), (w4.heap.size, .bool nd, .string (nstr R), .int .i64 (nexp R (-100))), (g, .bool (zneg Z), .string (zstr Z), .int .i64 (zexp Z (-100))), (wc.heap.size, .bool false, .string (zstr Z), .int .i64 (zexp Z (-100))), (wc.heap.size + 1, .bool false, .string t, .int .i64 (a))] w')) (assumption)
                (first
                  | (go_at_call 13; refine (HS2.out _ (Sd.pw (w0 := w) (L := [(w.heap.size, .bool nd, .string sd, .int .i64 (ed)), (w3.heap.size, .bool nd, .string (nstr R), .int .i64 (nexp R (-100))), (w4.heap.size, .bool nd, .string (nstr R), .int .i64 (nexp R (-100))), (g, .bool (zneg Z), .string (zstr Z), .int .i64 (zexp Z (-100))), (wc.heap.size, .bool false, .string (zstr Z), .int .i64 (zexp Z (-100))), (wc.heap.size + 1, .bool false, .string t, .int .i64 (a))]) (by assumption))).mono ?_; rintro r wr ⟨rfl, hb⟩; have hS := Sd.keep (w0 := w) (L := [(w.heap.size, .bool nd, .string sd, .int .i64 (ed)), (w3.heap.size, .bool nd, .string (nstr R), .int .i64 (nexp R (-100))), (w4.heap.size, .bool nd, .string (nstr R), .int .i64 (nexp R (-100))), (g, .bool (zneg Z), .string (zstr Z), .int .i64 (zexp Z (-100))), (wc.heap.size, .bool false, .string (zstr Z), .int .i64 (zexp Z (-100))), (wc.heap.size + 1, .bool false, .string t, .int .i64 (a))]) (by assumption) hb; clear hb)
                  | (go_at_call 15; refine (refCmp_d (by first | exact HP1.out | exact HP2.out) HO1.out (by first | exact HC1.out | exact HC2.out) (Sd.pw (w0 := w) (L := [(w.heap.size, .bool nd, .string sd, .int .i64 (ed)), (w3.heap.size, .bool nd, .string (nstr R), .int .i64 (nexp R (-100))), (w4.heap.size, .bool nd, .string (nstr R), .int .i64 (nexp R (-100))), (g, .bool (zneg Z), .string (zstr Z), .int .i64 (zexp Z (-100))), (wc.heap.size, .bool false, .string (zstr Z), .int .i64 (zexp Z (-100))), (wc.heap.size + 1, .bool false, .string t, .int .i64 (a))]) (by assumption))).mono ?_; rintro r wr ⟨rfl, hb⟩; have hS := Sd.keep (w0 := w) (L := [(w.heap.size, .bool nd, .string sd, .int .i64 (ed)), (w3.heap.size, .bool nd, .string (nstr R), .int .i64 (nexp R (-100))), (w4.heap.size, .bool nd, .string (nstr R), .int .i64 (nexp R (-100))), (g, .bool (zneg Z), .string (zstr Z), .int .i64 (zexp Z (-100))), (wc.heap.size, .bool false, .string (zstr Z), .int .i64 (zexp Z (-100))), (wc.heap.size + 1, .bool false, .string t, .int .i64 (a))]) (by assumption) hb; clear hb))
              rename_i hHeld
              clear hHeld
              have HK2 := hS.2
              clear HK hS
              have HK := HK2
              clear HK2
              obtain ⟨⟨⟨c00, c01, c02⟩, ⟨c10, c11, c12⟩, ⟨c20, c21, c22⟩, ⟨c30, c31, c32⟩, ⟨c40, c41, c42⟩, ⟨c50, c51, c52⟩, -⟩, -⟩ := Sd.of HK.out
              have h0b : (m != 0) = true := by simp; omega
              have h1b : (m != 1) = true := by simp; omega
              go_wp2_with fail
              refine (answers10_c _ HK.out.1).mono ?_
              rintro r w5 ⟨rfl, hb⟩
              clear c00 c01 c02 c10 c11 c12 c20 c21 c22 c30 c31 c32 c40 c41 c42 c50 c51 c52
              have hk := HK.out.keep hb
              replace HK := Lib.hid hk
              clear hk hb
              obtain ⟨⟨⟨c00, c01, c02⟩, ⟨c10, c11, c12⟩, ⟨c20, c21, c22⟩, ⟨c30, c31, c32⟩, ⟨c40, c41, c42⟩, ⟨c50, c51, c52⟩, -⟩, -⟩ := Sd.of HK.out
              go_wp2
              go_ret
              exact ⟨rfl, HK.out.2.1⟩
            · have h4b : decide (4 ≤ m) = false := decide_eq_false h4
              clear h4
              refine wp_region_held_drew (S := (fun w' => ((w'.cell? ⟨w.heap.size, 0, none⟩ = some (.bool nd) ∧ w'.cell? ⟨w.heap.size, 1, none⟩ = some (.string sd) ∧ w'.cell? ⟨w.heap.size, 2, none⟩ = some (.int .i64 (ed))) ∧ (w'.cell? ⟨w3.heap.size, 0, none⟩ = some (.bool nd) ∧ w'.cell? ⟨w3.heap.size, 1, none⟩ = some (.string (nstr R)) ∧ w'.cell? ⟨w3.heap.size, 2, none⟩ = some (.int .i64 (nexp R (-100)))) ∧ (w'.cell? ⟨w4.heap.size, 0, none⟩ = some (.bool nd) ∧ w'.cell? ⟨w4.heap.size, 1, none⟩ = some (.string (nstr R)) ∧ w'.cell? ⟨w4.heap.size, 2, none⟩ = some (.int .i64 (nexp R (-100)))) ∧ (w'.cell? ⟨g, 0, none⟩ = some (.bool (zneg Z)) ∧ w'.cell? ⟨g, 1, none⟩ = some (.string (zstr Z)) ∧ w'.cell? ⟨g, 2, none⟩ = some (.int .i64 (zexp Z (-100)))) ∧ (w'.cell? ⟨wc.heap.size, 0, none⟩ = some (.bool false) ∧ w'.cell? ⟨wc.heap.size, 1, none⟩ = some (.string (zstr Z)) ∧ w'.cell? ⟨wc.heap.size, 2, none⟩ = some (.int .i64 (zexp Z (-100)))) ∧ (w'.cell? ⟨wc.heap.size + 1, 0, none⟩ = some (.bool false) ∧ w'.cell? ⟨wc.heap.size + 1, 1, none⟩ = some (.string t) ∧ w'.cell? ⟨wc.heap.size + 1, 2, none⟩ = some (.int .i64 (a))) ∧ True) ∧ Hid (Kept3 w [(w.heap.size, .bool nd, .string sd, .int .i64 (ed)), (w3.heap.size, .bool nd, .string (nstr R), .int .i64 (nexp R (-100))), (w4.heap.size, .bool nd, .string (nstr R), .int .i64 (nexp R (-100))), (g, .bool (zneg Z), .string (zstr Z), .int .i64 (zexp Z (-100))), (wc.heap.size, .bool false, .string (zstr Z), .int .i64 (zexp Z (-100))), (wc.heap.size + 1, .bool false, .string t, .int .i64 (a))] w'))) (by kernel_rfl) (Sd.of HK.out.drew) (fun hHeld => ?_)
              refine' take_at 0 (v := _) rfl (by kernel_rfl) (by kernel_rfl) (by kernel_rfl) (fun _ _ _ h => h) rfl ?y1 hHeld ?r1
              case y1 =>
                intro w hSw
                try dsimp only at hSw
                go_simp
                try with_reducible rfl
              try simp only [Act.put, List.setIfInBounds_toArray, List.set_cons_zero, List.set_cons_succ]
              refine' take_at 1 (v := _) rfl (by kernel_rfl) (by kernel_rfl) (by kernel_rfl) (fun _ _ _ h => h) rfl ?y2 hHeld ?r2
              case y2 =>
                intro w hSw
                try dsimp only at hSw
                go_simp
                try with_reducible rfl
              try simp only [Act.put, List.setIfInBounds_toArray, List.set_cons_zero, List.set_cons_succ]
              refine' take_at 2 (v := _) rfl (by kernel_rfl) (by kernel_rfl) (by kernel_rfl) (fun _ _ _ h => h) rfl ?y3 hHeld ?r3
              case y3 =>
                intro w hSw
                try dsimp only at hSw
                go_simp
                try with_reducible rfl
              try simp only [Act.put, List.setIfInBounds_toArray, List.set_cons_zero, List.set_cons_succ]
              refine' take_at 3 (v := _) rfl (by kernel_rfl) (by kernel_rfl) (by kernel_rfl) (fun _ _ _ h => h) rfl ?y4 hHeld ?r4
              case y4 =>
                intro w hSw
                try dsimp only at hSw
                go_simp
                try with_reducible rfl
              try simp only [Act.put, List.setIfInBounds_toArray, List.set_cons_zero, List.set_cons_succ]
              refine' take_at 4 (v := _) rfl (by kernel_rfl) (by kernel_rfl) (by kernel_rfl) (fun _ _ _ h => h) rfl ?y5 hHeld ?r5
              case y5 =>
                intro w hSw
                try dsimp only at hSw
                go_simp
                try with_reducible rfl
              try simp only [Act.put, List.setIfInBounds_toArray, List.set_cons_zero, List.set_cons_succ]
              refine' take_at 5 (v := _) rfl (by kernel_rfl) (by kernel_rfl) (by kernel_rfl) (fun _ _ _ h => h) rfl ?y6 hHeld ?r6
              case y6 =>
                intro w hSw
                try dsimp only at hSw
                go_simp
                try with_reducible rfl
              try simp only [Act.put, List.setIfInBounds_toArray, List.set_cons_zero, List.set_cons_succ]
              refine' take_at 6 (v := _) rfl (by kernel_rfl) (by kernel_rfl) (by kernel_rfl) (fun _ _ _ h => h) rfl ?y7 hHeld ?r7
              case y7 =>
                intro w hSw
                try dsimp only at hSw
                go_simp
                try with_reducible rfl
              try simp only [Act.put, List.setIfInBounds_toArray, List.set_cons_zero, List.set_cons_succ]
              refine' take_at 7 (v := _) rfl (by kernel_rfl) (by kernel_rfl) (by kernel_rfl) (fun _ _ _ h => h) rfl ?y8 hHeld ?r8
              case y8 =>
                intro w hSw
                try dsimp only at hSw
                go_simp
                try with_reducible rfl
              try simp only [Act.put, List.setIfInBounds_toArray, List.set_cons_zero, List.set_cons_succ]
              refine' take_at 8 (v := _) rfl (by kernel_rfl) (by kernel_rfl) (by kernel_rfl) (fun _ _ _ h => h) rfl ?y9 hHeld ?r9
              case y9 =>
                intro w hSw
                try dsimp only at hSw
                go_simp
                try with_reducible rfl
              try simp only [Act.put, List.setIfInBounds_toArray, List.set_cons_zero, List.set_cons_succ]
              refine' take_at 9 (v := _) rfl (by kernel_rfl) (by kernel_rfl) (by kernel_rfl) (fun _ _ _ h => h) rfl ?y10 hHeld ?r10
              case y10 =>
                intro w hSw
                try dsimp only at hSw
                go_simp
                try with_reducible rfl
              try simp only [Act.put, List.setIfInBounds_toArray, List.set_cons_zero, List.set_cons_succ]
              refine' take_at 10 (v := _) rfl (by kernel_rfl) (by kernel_rfl) (by kernel_rfl) (fun _ _ _ h => h) rfl ?y11 hHeld ?r11
              case y11 =>
                intro w hSw
                try dsimp only at hSw
                go_simp
                try with_reducible rfl
              try simp only [Act.put, List.setIfInBounds_toArray, List.set_cons_zero, List.set_cons_succ]
              refine' take_at 11 (v := _) rfl (by kernel_rfl) (by kernel_rfl) (by kernel_rfl) (fun _ _ _ h => h) rfl ?y12 hHeld ?r12
              case y12 =>
                intro w hSw
                try dsimp only at hSw
                go_simp
                try with_reducible rfl
              try simp only [Act.put, List.setIfInBounds_toArray, List.set_cons_zero, List.set_cons_succ]
              refine' take_at 12 (v := _) rfl (by kernel_rfl) (by kernel_rfl) (by kernel_rfl) (fun _ _ _ h => h) rfl ?y13 hHeld ?r13
              case y13 =>
                intro w hSw
                try dsimp only at hSw
                go_simp
                try with_reducible rfl
              try simp only [Act.put, List.setIfInBounds_toArray, List.set_cons_zero, List.set_cons_succ]
              refine' take_at 13 (v := _) rfl (by kernel_rfl) (by kernel_rfl) (by kernel_rfl) (fun _ _ _ h => h) rfl ?y14 hHeld ?r14
              case y14 =>
                intro w hSw
                try dsimp only at hSw
                go_simp
                try with_reducible rfl
              try simp only [Act.put, List.setIfInBounds_toArray, List.set_cons_zero, List.set_cons_succ]
              refine step_at 14 (by kernel_rfl) rfl rfl (fun K hK => ?_)
              go_simp
              refine (refCmp_d HP1.out HO1.out HC1.out (Sd.pw (w0 := w) (L := [(w.heap.size, .bool nd, .string sd, .int .i64 (ed)), (w3.heap.size, .bool nd, .string (nstr R), .int .i64 (nexp R (-100))), (w4.heap.size, .bool nd, .string (nstr R), .int .i64 (nexp R (-100))), (g, .bool (zneg Z), .string (zstr Z), .int .i64 (zexp Z (-100))), (wc.heap.size, .bool false, .string (zstr Z), .int .i64 (zexp Z (-100))), (wc.heap.size + 1, .bool false, .string t, .int .i64 (a))]) hHeld)).mono ?_
              rintro r wr ⟨rfl, hb⟩
              have hS := Sd.keep (w0 := w) (L := [(w.heap.size, .bool nd, .string sd, .int .i64 (ed)), (w3.heap.size, .bool nd, .string (nstr R), .int .i64 (nexp R (-100))), (w4.heap.size, .bool nd, .string (nstr R), .int .i64 (nexp R (-100))), (g, .bool (zneg Z), .string (zstr Z), .int .i64 (zexp Z (-100))), (wc.heap.size, .bool false, .string (zstr Z), .int .i64 (zexp Z (-100))), (wc.heap.size + 1, .bool false, .string t, .int .i64 (a))]) hHeld hb
              clear hHeld
              skip
              clear hb
              go_wp2_with fail
              refine hK.out _ _ hS (fun hHeld => ?_)
              clear hK K hS
              try simp only [Act.put, List.setIfInBounds_toArray, List.set_cons_zero, List.set_cons_succ]
              refine' take_at 15 (v := _) rfl (by kernel_rfl) (by kernel_rfl) (by kernel_rfl) (fun _ _ _ h => h) rfl ?y15 hHeld ?r15
              case y15 =>
                intro w hSw
                try dsimp only at hSw
                go_simp
                try with_reducible rfl
              try simp only [Act.put, List.setIfInBounds_toArray, List.set_cons_zero, List.set_cons_succ]
              refine' take_at 16 (v := _) rfl (by kernel_rfl) (by kernel_rfl) (by kernel_rfl) (fun _ _ _ h => h) rfl ?y16 hHeld ?r16
              case y16 =>
                intro w hSw
                try dsimp only at hSw
                go_simp
                try with_reducible rfl
              try simp only [Act.put, List.setIfInBounds_toArray, List.set_cons_zero, List.set_cons_succ]
              refine' take_at 17 (v := _) rfl (by kernel_rfl) (by kernel_rfl) (by kernel_rfl) (fun _ _ _ h => h) rfl ?y17 hHeld ?r17
              case y17 =>
                intro w hSw
                try dsimp only at hSw
                go_simp
                try with_reducible rfl
              try simp only [Act.put, List.setIfInBounds_toArray, List.set_cons_zero, List.set_cons_succ]
              refine' take_at 18 (v := _) rfl (by kernel_rfl) (by kernel_rfl) (by kernel_rfl) (fun _ _ _ h => h) rfl ?y18 hHeld ?r18
              case y18 =>
                intro w hSw
                try dsimp only at hSw
                go_simp
                try with_reducible rfl
              try simp only [Act.put, List.setIfInBounds_toArray, List.set_cons_zero, List.set_cons_succ]
              refine' take_at 19 (v := _) rfl (by kernel_rfl) (by kernel_rfl) (by kernel_rfl) (fun _ _ _ h => h) rfl ?y19 hHeld ?r19
              case y19 =>
                intro w hSw
                try dsimp only at hSw
                go_simp
                try with_reducible rfl
              try simp only [Act.put, List.setIfInBounds_toArray, List.set_cons_zero, List.set_cons_succ]
              refine' take_at 20 (v := _) rfl (by kernel_rfl) (by kernel_rfl) (by kernel_rfl) (fun _ _ _ h => h) rfl ?y20 hHeld ?r20
              case y20 =>
                intro w hSw
                try dsimp only at hSw
                go_simp
                try with_reducible rfl
              try simp only [Act.put, List.setIfInBounds_toArray, List.set_cons_zero, List.set_cons_succ]
              refine skip_at 21 rfl (by kernel_rfl) (by kernel_rfl) (by kernel_rfl) (fun _ _ _ h => h) rfl hHeld ?_
              try simp only [Act.put, List.setIfInBounds_toArray, List.set_cons_zero, List.set_cons_succ]
              refine skip_at 22 rfl (by kernel_rfl) (by kernel_rfl) (by kernel_rfl) (fun _ _ _ h => h) rfl hHeld ?_
              try simp only [Act.put, List.setIfInBounds_toArray, List.set_cons_zero, List.set_cons_succ]
              refine skip_at 23 rfl (by kernel_rfl) (by kernel_rfl) (by kernel_rfl) (fun _ _ _ h => h) rfl hHeld ?_
              try simp only [Act.put, List.setIfInBounds_toArray, List.set_cons_zero, List.set_cons_succ]
              refine skip_at 24 rfl (by kernel_rfl) (by kernel_rfl) (by kernel_rfl) (fun _ _ _ h => h) rfl hHeld ?_
              try simp only [Act.put, List.setIfInBounds_toArray, List.set_cons_zero, List.set_cons_succ]
              refine skip_at 25 rfl (by kernel_rfl) (by kernel_rfl) (by kernel_rfl) (fun _ _ _ h => h) rfl hHeld ?_
              try simp only [Act.put, List.setIfInBounds_toArray, List.set_cons_zero, List.set_cons_succ]
              refine skip_at 26 rfl (by kernel_rfl) (by kernel_rfl) (by kernel_rfl) (fun _ _ _ h => h) rfl hHeld ?_
              try simp only [Act.put, List.setIfInBounds_toArray, List.set_cons_zero, List.set_cons_succ]
              refine' take_at 27 (v := _) rfl (by kernel_rfl) (by kernel_rfl) (by kernel_rfl) (fun _ _ _ h => h) rfl ?y27 hHeld ?r27
              case y27 =>
                intro w hSw
                try dsimp only at hSw
                go_simp
                try with_reducible rfl
              try simp only [Act.put, List.setIfInBounds_toArray, List.set_cons_zero, List.set_cons_succ]
              refine' take_at 28 (v := _) rfl (by kernel_rfl) (by kernel_rfl) (by kernel_rfl) (fun _ _ _ h => h) rfl ?y28 hHeld ?r28
              case y28 =>
                intro w hSw
                try dsimp only at hSw
                go_simp
                try with_reducible rfl
              try simp only [Act.put, List.setIfInBounds_toArray, List.set_cons_zero, List.set_cons_succ]
              refine wpAnyH_done (by kernel_rfl) ?_ _
              have HK2 := hHeld.2
              clear HK hHeld
              have HK := HK2
              clear HK2
              obtain ⟨⟨⟨c00, c01, c02⟩, ⟨c10, c11, c12⟩, ⟨c20, c21, c22⟩, ⟨c30, c31, c32⟩, ⟨c40, c41, c42⟩, ⟨c50, c51, c52⟩, -⟩, -⟩ := Sd.of HK.out
              by_cases h0 : m = 0
              · have hzn : zneg Z = false := by have := HCE.out h0; unfold zneg; exact decide_eq_false (by omega)
                subst h0
                go_wp2_with fail
                refine (answers10_c _ HK.out.1).mono ?_
                rintro r w5 ⟨rfl, hb⟩
                clear c00 c01 c02 c10 c11 c12 c20 c21 c22 c30 c31 c32 c40 c41 c42 c50 c51 c52
                have hk := HK.out.keep hb
                replace HK := Lib.hid hk
                clear hk hb
                obtain ⟨⟨⟨c00, c01, c02⟩, ⟨c10, c11, c12⟩, ⟨c20, c21, c22⟩, ⟨c30, c31, c32⟩, ⟨c40, c41, c42⟩, ⟨c50, c51, c52⟩, -⟩, -⟩ := Sd.of HK.out
                go_wp2
                go_ret
                exact ⟨rfl, HK.out.2.1⟩
              · by_cases h1 : m = 1
                · have hle := HFL.out h1
                  by_cases hZ0 : Z = 0
                  · have hzs : ((zstr Z).toList == [48]) = true := by rw [zstr_is0]; exact decide_eq_true hZ0
                    subst h1
                    clear hle hZ0
                    go_wp2_with fail
                    refine (answers10_c _ HK.out.1).mono ?_
                    rintro r w5 ⟨rfl, hb⟩
                    clear c00 c01 c02 c10 c11 c12 c20 c21 c22 c30 c31 c32 c40 c41 c42 c50 c51 c52
                    have hk := HK.out.keep hb
                    replace HK := Lib.hid hk
                    clear hk hb
                    obtain ⟨⟨⟨c00, c01, c02⟩, ⟨c10, c11, c12⟩, ⟨c20, c21, c22⟩, ⟨c30, c31, c32⟩, ⟨c40, c41, c42⟩, ⟨c50, c51, c52⟩, -⟩, -⟩ := Sd.of HK.out
                    go_wp2
                    go_ret
                    exact ⟨rfl, HK.out.2.1⟩
                  · have hzs : ((zstr Z).toList == [48]) = false := by rw [zstr_is0]; exact decide_eq_false hZ0
                    have hzn : zneg Z = true := by unfold zneg; exact decide_eq_true (by omega)
                    subst h1
                    clear hle hZ0
                    go_wp2_with fail
                    refine (answers10_c _ HK.out.1).mono ?_
                    rintro r w5 ⟨rfl, hb⟩
                    clear c00 c01 c02 c10 c11 c12 c20 c21 c22 c30 c31 c32 c40 c41 c42 c50 c51 c52
                    have hk := HK.out.keep hb
                    replace HK := Lib.hid hk
                    clear hk hb
                    obtain ⟨⟨⟨c00, c01, c02⟩, ⟨c10, c11, c12⟩, ⟨c20, c21, c22⟩, ⟨c30, c31, c32⟩, ⟨c40, c41, c42⟩, ⟨c50, c51, c52⟩, -⟩, -⟩ := Sd.of HK.out
                    go_wp2
                    go_ret
                    exact ⟨rfl, HK.out.2.1⟩
                · have h0b : (m != 0) = true := by simpa using h0
                  have h1b : (m != 1) = true := by simpa using h1
                  go_wp2_with fail
                  refine (answers10_c _ HK.out.1).mono ?_
                  rintro r w5 ⟨rfl, hb⟩
                  clear c00 c01 c02 c10 c11 c12 c20 c21 c22 c30 c31 c32 c40 c41 c42 c50 c51 c52
                  have hk := HK.out.keep hb
                  replace HK := Lib.hid hk
                  clear hk hb
                  obtain ⟨⟨⟨c00, c01, c02⟩, ⟨c10, c11, c12⟩, ⟨c20, c21, c22⟩, ⟨c30, c31, c32⟩, ⟨c40, c41, c42⟩, ⟨c50, c51, c52⟩, -⟩, -⟩ := Sd.of HK.out
                  go_wp2
                  go_ret
                  exact ⟨rfl, HK.out.2.1⟩
end Go.Proofs.YtekanlcfgfllcaaDoor
