/-
  PlaceNear: the walk.
-/
import Derived.Test.YtonanpnacoegcaaDoorU8
import Derived.Deep.DeepCutAuto
set_option linter.unusedSimpArgs false
set_option maxRecDepth 100000
namespace Go.Proofs.YtonanpnacoegcaaDoor
open Go.RowKit
attribute [local go_sem] dec_field0 dec_field1 dec_field2 in
set_option maxHeartbeats 16000000 in
set_option maxRecDepth 100000 in
theorem walk_placeNear (m : Int) (nd : Bool) (sd : ByteArray) (ed : Int) (a : Int) (w : World) (hm : -9223372036854775808 ≤ m ∧ m ≤ 9223372036854775807) (hd : sd.size ≤ maxLen) (ha : -9223372036854775808 ≤ a ∧ a ≤ 9223372036854775807) (hP : Pw w) :
    Calls Tryd.prog 5 #[.int .i64 m, .agg #[.bool nd, .string sd, .int .i64 ed], .int .i64 a] w fun e w' => e = .returned (.bool true) ∧ Below w.heap.size w w' := by
  have HK := Lib.hid (kept_one w (.bool nd) (.string sd) (.int .i64 ed) 23 hP)
  clear hP
  have HG := Lib.hid (fun w hP => good08_c nd sd ed a w hd hP)
  rcases hg : g8 sd ed a with _ | _
  · rw [hg] at HG
    clear hg
    go_enter Tryd.func5, Tryd.ntmps5
    go_wp2_with fail
    refine (HG.out _ HK.out.1).mono ?_
    rintro r w1 ⟨rfl, hb⟩
    have hk := HK.out.keep hb
    replace HK := Lib.hid hk
    clear hk hb
    obtain ⟨⟨⟨c00, c01, c02⟩, -⟩, -⟩ := Sd.of HK.out
    go_wp2_with fail
    refine (answers08_c _ HK.out.1).mono ?_
    rintro r w2 ⟨rfl, hb⟩
    clear c00 c01 c02
    have hk := HK.out.keep hb
    replace HK := Lib.hid hk
    clear hk hb
    obtain ⟨⟨⟨c00, c01, c02⟩, -⟩, -⟩ := Sd.of HK.out
    go_wp2
    go_ret
    exact ⟨rfl, HK.out.2.1⟩
  · rw [hg] at HG
    obtain ⟨hf, ha1, ha2, he1, he2⟩ := g8_true hg
    obtain ⟨X, hu, hl⟩ := DU.of_fine (k := -400) hf (by omega) (by omega) (by omega)
    have HU := Lib.hid hu
    clear hg hf hu
    by_cases hm1 : m < 0
    · go_enter Tryd.func5, Tryd.ntmps5
      go_wp2_with fail
      refine (HG.out _ HK.out.1).mono ?_
      rintro r w1 ⟨rfl, hb⟩
      have hk := HK.out.keep hb
      replace HK := Lib.hid hk
      clear hk hb
      obtain ⟨⟨⟨c00, c01, c02⟩, -⟩, -⟩ := Sd.of HK.out
      go_wp2_with fail
      refine (answers08_c _ HK.out.1).mono ?_
      rintro r w2 ⟨rfl, hb⟩
      clear c00 c01 c02
      have hk := HK.out.keep hb
      replace HK := Lib.hid hk
      clear hk hb
      obtain ⟨⟨⟨c00, c01, c02⟩, -⟩, -⟩ := Sd.of HK.out
      go_wp2
      go_ret
      exact ⟨rfl, HK.out.2.1⟩
    · by_cases hm2 : 6 < m
      · go_enter Tryd.func5, Tryd.ntmps5
        go_wp2_with fail
        refine (HG.out _ HK.out.1).mono ?_
        rintro r w1 ⟨rfl, hb⟩
        have hk := HK.out.keep hb
        replace HK := Lib.hid hk
        clear hk hb
        obtain ⟨⟨⟨c00, c01, c02⟩, -⟩, -⟩ := Sd.of HK.out
        go_wp2_with fail
        refine (answers08_c _ HK.out.1).mono ?_
        rintro r w2 ⟨rfl, hb⟩
        clear c00 c01 c02
        have hk := HK.out.keep hb
        replace HK := Lib.hid hk
        clear hk hb
        obtain ⟨⟨⟨c00, c01, c02⟩, -⟩, -⟩ := Sd.of HK.out
        go_wp2
        go_ret
        exact ⟨rfl, HK.out.2.1⟩
      · have HWP := Lib.hid (show 0 < (10 ^ (a - -400).toNat) from pow_pos10 _)
        obtain ⟨R, hR⟩ : ∃ R, rndN m nd X (10 ^ (a - -400).toNat) = R := ⟨_, rfl⟩
        have hpl := pow_len (a - -400).toNat
        have hRl := rnd_len m nd (L := 900) (X := X) (by omega) (Nat.le_trans hpl (by omega)) HWP.out
        have hoff := rnd_off m nd X (10 ^ (a - -400).toNat) HWP.out
        have HHF := Lib.hid (show (m = 4 ∨ m = 5 ∨ m = 6) → _ from fun hm => rnd_half hm nd X (10 ^ (a - -400).toNat) HWP.out)
        have HCE := Lib.hid (show m = 0 → sv nd X ≤ sv nd R from fun hm => by have := rnd_ceil nd X (10 ^ (a - -400).toNat) HWP.out; rwa [← hm, hR] at this)
        have HFL := Lib.hid (show m = 1 → sv nd R ≤ sv nd X from fun hm => by have := rnd_floor nd X (10 ^ (a - -400).toNat) HWP.out; rwa [← hm, hR] at this)
        have HR := Lib.hid (fun (w : World) (hP : Pw w) => placeRound_u (m := m) (p := a) (n := nd) (w := w) (isWay_true (by omega) (by omega)) HU.out (by omega) (by omega) rfl (rndV_of (by omega)) hP)
        rw [hR] at hRl hoff HHF HR
        have HUR := Lib.hid (DU.z (k := -400) (X := R) (by omega) (by omega) (by omega))
        obtain ⟨Z, hZ⟩ : ∃ Z, sv nd R + -sv nd X = Z := ⟨_, rfl⟩
        rw [← Int.sub_eq_add_neg] at hZ
        rw [hZ] at hoff HHF
        replace HCE := Lib.hid (show m = 0 → 0 ≤ Z from fun hm => by have := HCE.out hm; omega)
        replace HFL := Lib.hid (show m = 1 → Z ≤ 0 from fun hm => by have := HFL.out hm; omega)
        have HSU := Lib.hid (fun (w : World) (hP : Pw w) => refSum_d (w := w) (Z := Z) (HUR.out.dv nd) (HU.out.dv nd).turn (by omega) hP)
        have hZl : (decs Z.natAbs).length ≤ 4900 := by have := decs_length_le (Nat.le_of_lt hoff); omega
        have HUZ := Lib.hid (show DU (-400) (zstr Z) (zexp Z (-400)) Z.natAbs from DU.z (by omega) (by omega) hZl)
        have HU1 := Lib.hid (DU.one (k := -400) (a := a) (W := (10 ^ (a - -400).toNat)) da_one (by omega) (by omega) (by omega) (Nat.one_mul _) (by omega))
        have h10 : 10 ^ (a - -400).toNat = 10 * 10 ^ (a - 1 - -400).toNat := by rw [← Nat.pow_succ']; congr 1; omega
        have HU5 := Lib.hid (DU.one (k := -400) (a := a - 1) (W := 5 * 10 ^ (a - 1 - -400).toNat) da_five (by omega) (by omega) (by omega) rfl (by have := decs_length_le (show 5 * 10 ^ (a - 1 - -400).toNat ≤ 10 ^ (a - -400).toNat by omega); omega))
        have HC1 := Lib.hid (fun (w : World) (hP : Pw w) => refCmp_d (C := -1) (w := w) (HUZ.out.dv false) (HU1.out.dv false) (cmpZ_lt (by simp only [sv, Bool.false_eq_true, if_false]; omega)) hP)
        obtain ⟨C2, hC2⟩ : ∃ C2, cmpZ (sv false Z.natAbs) (sv false (5 * 10 ^ (a - 1 - -400).toNat)) = C2 := ⟨_, rfl⟩
        have HC2 := Lib.hid (fun (w : World) (hP : Pw w) => refCmp_d (w := w) (HUZ.out.dv false) (HU5.out.dv false) hC2 hP)
        have HC20 := Lib.hid (show (m = 4 ∨ m = 5 ∨ m = 6) → C2 ≤ 0 from fun hm => by
          have h2 := HHF.out hm
          simp only [sv, Bool.false_eq_true, if_false] at hC2
          rcases cmpZ_cases ((Z.natAbs : Nat) : Int) ((5 * 10 ^ (a - 1 - -400).toNat : Nat) : Int) with hh | hh | hh <;> omega)
        have hwa : IntKind.i64.wrap (a - 1) = a - 1 := IntWalk.i64_in _ (by omega)
        clear hR hpl hRl hoff hZ hZl h10 hC2 HHF
        go_enter Tryd.func5, Tryd.ntmps5
        go_wp2_with fail
        refine (HG.out _ HK.out.1).mono ?_
        rintro r w1 ⟨rfl, hb⟩
        have hk := HK.out.keep hb
        replace HK := Lib.hid hk
        clear hk hb
        obtain ⟨⟨⟨c00, c01, c02⟩, -⟩, -⟩ := Sd.of HK.out
        go_wp2_with fail
        refine (HR.out _ HK.out.1).mono ?_
        rintro r w2 ⟨rfl, hb⟩
        clear c00 c01 c02
        have hk := HK.out.keep hb
        replace HK := Lib.hid hk
        clear hk hb
        replace HK := Lib.hid (show Kept3 w [(w.heap.size, .bool nd, .string sd, .int .i64 (ed)), (w2.heap.size, .bool nd, .string (nstr R), .int .i64 (nexp R (-400)))] (w2.alloc (.cells #[.bool nd, .string (nstr R), .int .i64 (nexp R (-400))] 23)) from HK.out.grow _ _ _ _)
        obtain ⟨⟨⟨c00, c01, c02⟩, ⟨c10, c11, c12⟩, -⟩, -⟩ := Sd.of HK.out
        have hz0 := (HK.out.2.2 _ (.head _)).2.2.2.2.2.2
        have hz1 := (HK.out.2.2 _ (.tail _ (.head _))).2.2.2.2.2.2
        have hzw := HK.out.2.1.size
        have hP2 := HK.out.1.blk
        simp only [World.size_alloc] at hz0 hz1 hzw hP2
        clear c00 c01 c02 c10 c11 c12
        go_wp2_with fail
        have hS : Sd w [(w.heap.size, .bool nd, .string sd, .int .i64 (ed)), (w2.heap.size, .bool nd, .string (nstr R), .int .i64 (nexp R (-400)))] _ := .of HK.out
        go_cut [9] (OneMid w [(w.heap.size, .bool nd, .string sd, .int .i64 (ed)), (w2.heap.size, .bool nd, .string (nstr R), .int .i64 (nexp R (-400)))] (.bool (zneg Z), .string (zstr Z), .int .i64 (zexp Z (-400))))
        case first =>
          go_region_held3 (fun w' => ((w'.cell? ⟨w.heap.size, 0, none⟩ = some (.bool nd) ∧ w'.cell? ⟨w.heap.size, 1, none⟩ = some (.string sd) ∧ w'.cell? ⟨w.heap.size, 2, none⟩ = some (.int .i64 (ed))) ∧ (w'.cell? ⟨w2.heap.size, 0, none⟩ = some (.bool nd) ∧ w'.cell? ⟨w2.heap.size, 1, none⟩ = some (.string (nstr R)) ∧ w'.cell? ⟨w2.heap.size, 2, none⟩ = some (.int .i64 (nexp R (-400)))) ∧ True) ∧ Hid (Kept3 w [(w.heap.size, .bool nd, .string sd, .int .i64 (ed)), (w2.heap.size, .bool nd, .string (nstr R), .int .i64 (nexp R (-400)))] w')) (exact (Sd.keepB (B := w2.heap.size + 1) (w0 := w) (L := [(w.heap.size, .bool nd, .string sd, .int .i64 (ed)), (w2.heap.size, .bool nd, .string (nstr R), .int .i64 (nexp R (-400)))]) hS (by (repeat' (first | with_reducible exact Below.refl _ _ | with_reducible refine Below.drew ?_ | with_reducible refine Below.setCell ?_ ?_ _ | with_reducible refine Below.alloc ?_ ?_ _ | exact Below.refl _ _)) <;> first | omega | ((try dsimp only); (try simp only [World.size_alloc, World.size_setCell, World.size_drew]); omega)) (by intro u hu; simp at hu; rcases hu with rfl | rfl <;> (dsimp only; omega)) (by omega) (by omega)))
            (first
            | (go_at_call 17; refine (ref5Turn_c _ _ _ _).mono ?_; rintro r wr ⟨rfl, hb⟩; have hS := Sd.keep (Sd.keepB (B := w2.heap.size + 1) (w0 := w) (L := [(w.heap.size, .bool nd, .string sd, .int .i64 (ed)), (w2.heap.size, .bool nd, .string (nstr R), .int .i64 (nexp R (-400)))]) hS (by (repeat' (first | with_reducible exact Below.refl _ _ | with_reducible refine Below.drew ?_ | with_reducible refine Below.setCell ?_ ?_ _ | with_reducible refine Below.alloc ?_ ?_ _ | exact Below.refl _ _)) <;> first | omega | ((try dsimp only); (try simp only [World.size_alloc, World.size_setCell, World.size_drew]); omega)) (by intro u hu; simp at hu; rcases hu with rfl | rfl <;> (dsimp only; omega)) (by omega) (by omega)) hb; have hz := hb.size; (try simp only [World.size_alloc, World.size_drew] at hz); (first | (have BX2 := Lib.hid (BX.out.keep hb); clear BX; have BX := BX2; clear BX2) | (have BX := Lib.hid ((Box3.new _ _ _ _ _).keep hb)) | (have BX := Lib.hid ((Box3.new _ _ _ _ _).drew.keep hb)) | skip); (try obtain ⟨x0, x1, x2, xf0, xf1, xf2, xz⟩ := BX.out); (try simp only [World.size_alloc, World.size_drew] at x0 x1 x2 xf0 xf1 xf2 xz); clear hb)
            | (go_at_call 16; refine (HSU.out _ (Sd.pw (Sd.keepB (B := w2.heap.size + 1) (w0 := w) (L := [(w.heap.size, .bool nd, .string sd, .int .i64 (ed)), (w2.heap.size, .bool nd, .string (nstr R), .int .i64 (nexp R (-400)))]) hS (by (repeat' (first | with_reducible exact Below.refl _ _ | with_reducible refine Below.drew ?_ | with_reducible refine Below.setCell ?_ ?_ _ | with_reducible refine Below.alloc ?_ ?_ _ | exact Below.refl _ _)) <;> first | omega | ((try dsimp only); (try simp only [World.size_alloc, World.size_setCell, World.size_drew]); omega)) (by intro u hu; simp at hu; rcases hu with rfl | rfl <;> (dsimp only; omega)) (by omega) (by omega)))).mono ?_; rintro r wr ⟨rfl, hb⟩; have hS := Sd.keep (Sd.keepB (B := w2.heap.size + 1) (w0 := w) (L := [(w.heap.size, .bool nd, .string sd, .int .i64 (ed)), (w2.heap.size, .bool nd, .string (nstr R), .int .i64 (nexp R (-400)))]) hS (by (repeat' (first | with_reducible exact Below.refl _ _ | with_reducible refine Below.drew ?_ | with_reducible refine Below.setCell ?_ ?_ _ | with_reducible refine Below.alloc ?_ ?_ _ | exact Below.refl _ _)) <;> first | omega | ((try dsimp only); (try simp only [World.size_alloc, World.size_setCell, World.size_drew]); omega)) (by intro u hu; simp at hu; rcases hu with rfl | rfl <;> (dsimp only; omega)) (by omega) (by omega)) hb; have hz := hb.size; (try simp only [World.size_alloc, World.size_drew] at hz); (first | (have BX2 := Lib.hid (BX.out.keep hb); clear BX; have BX := BX2; clear BX2) | (have BX := Lib.hid ((Box3.new _ _ _ _ _).keep hb)) | (have BX := Lib.hid ((Box3.new _ _ _ _ _).drew.keep hb)) | skip); (try obtain ⟨x0, x1, x2, xf0, xf1, xf2, xz⟩ := BX.out); (try simp only [World.size_alloc, World.size_drew] at x0 x1 x2 xf0 xf1 xf2 xz); clear hb))
          all_goals
            go_wp2_with fail
            go_meet
            exact oneMid_of (Sd.keepB (B := w2.heap.size + 1) (w0 := w) (L := [(w.heap.size, .bool nd, .string sd, .int .i64 (ed)), (w2.heap.size, .bool nd, .string (nstr R), .int .i64 (nexp R (-400)))]) hS (by (repeat' (first | with_reducible exact Below.refl _ _ | with_reducible refine Below.drew ?_ | with_reducible refine Below.setCell ?_ ?_ _ | with_reducible refine Below.alloc ?_ ?_ _ | exact Below.refl _ _)) <;> first | omega | ((try dsimp only); (try simp only [World.size_alloc, World.size_setCell, World.size_drew]); omega)) (by intro u hu; simp at hu; rcases hu with rfl | rfl <;> (dsimp only; omega)) (by omega) (by omega)) (by refine ⟨?_, ?_, ?_, ?_, ?_, ?_, ?_⟩ <;> first | go_simp | ((try simp only [World.size_alloc, World.size_setCell]); omega))
        case rest =>
          obtain ⟨g, rfl, hk⟩ := hcut
          have HK2 := Lib.hid (show Kept3 w [(w.heap.size, .bool nd, .string sd, .int .i64 (ed)), (w2.heap.size, .bool nd, .string (nstr R), .int .i64 (nexp R (-400))), (g, .bool (zneg Z), .string (zstr Z), .int .i64 (zexp Z (-400)))] wc from hk)
          clear HK hS hk
          have HK := Lib.hid HK2.out
          clear HK2 hz0 hz1 hzw hP2
          obtain ⟨⟨⟨c00, c01, c02⟩, ⟨c10, c11, c12⟩, ⟨c20, c21, c22⟩, -⟩, -⟩ := Sd.of HK.out
          have HA := Lib.hid (show Kept3 w [(w.heap.size, .bool nd, .string sd, .int .i64 (ed)), (w2.heap.size, .bool nd, .string (nstr R), .int .i64 (nexp R (-400))), (g, .bool (zneg Z), .string (zstr Z), .int .i64 (zexp Z (-400))), (wc.heap.size, .bool false, .string (zstr Z), .int .i64 (zexp Z (-400)))] (wc.alloc (.cells #[.bool false, .string (zstr Z), .int .i64 (zexp Z (-400))] 23)) from HK.out.grow _ _ _ _)
          have HB := Lib.hid (show Kept3 w [(w.heap.size, .bool nd, .string sd, .int .i64 (ed)), (w2.heap.size, .bool nd, .string (nstr R), .int .i64 (nexp R (-400))), (g, .bool (zneg Z), .string (zstr Z), .int .i64 (zexp Z (-400))), (wc.heap.size, .bool false, .string (zstr Z), .int .i64 (zexp Z (-400))), (wc.heap.size + 1, .bool false, .string ⟨#[49]⟩, .int .i64 (a))] _ by have h3 := HA.out.grow (.bool false) (.string ⟨#[49]⟩) (.int .i64 a) 23; rwa [World.size_alloc] at h3)
          have HC := Lib.hid (show Kept3 w [(w.heap.size, .bool nd, .string sd, .int .i64 (ed)), (w2.heap.size, .bool nd, .string (nstr R), .int .i64 (nexp R (-400))), (g, .bool (zneg Z), .string (zstr Z), .int .i64 (zexp Z (-400))), (wc.heap.size, .bool false, .string (zstr Z), .int .i64 (zexp Z (-400))), (wc.heap.size + 1, .bool false, .string ⟨#[49]⟩, .int .i64 (a)), (wc.heap.size + 1 + 1, .bool false, .string ⟨#[53]⟩, .int .i64 (a - 1))] _ by have h3 := HB.out.grow (.bool false) (.string ⟨#[53]⟩) (.int .i64 (a - 1)) 23; rwa [World.size_alloc, World.size_alloc] at h3)
          go_wp2_with fail
          clear c00 c01 c02 c10 c11 c12 c20 c21 c22 HK HA HB hwa
          have HK := Lib.hid HC.out
          clear HC
          refine (HC1.out _ HK.out.1).mono ?_
          rintro r w3 ⟨rfl, hb⟩
          have hk := HK.out.keep hb
          replace HK := Lib.hid hk
          clear hk hb
          obtain ⟨⟨⟨c00, c01, c02⟩, ⟨c10, c11, c12⟩, ⟨c20, c21, c22⟩, ⟨c30, c31, c32⟩, ⟨c40, c41, c42⟩, ⟨c50, c51, c52⟩, -⟩, -⟩ := Sd.of HK.out
          by_cases h0 : m = 0
          · have hzn : zneg Z = false := by have := HCE.out h0; unfold zneg; exact decide_eq_false (by omega)
            subst h0
            go_wp2_with fail
            refine (answers08_c _ HK.out.1).mono ?_
            rintro r w4 ⟨rfl, hb⟩
            clear c00 c01 c02 c10 c11 c12 c20 c21 c22 c30 c31 c32 c40 c41 c42 c50 c51 c52
            have hk := HK.out.keep hb
            replace HK := Lib.hid hk
            clear hk hb
            obtain ⟨⟨⟨c00, c01, c02⟩, ⟨c10, c11, c12⟩, ⟨c20, c21, c22⟩, ⟨c30, c31, c32⟩, ⟨c40, c41, c42⟩, ⟨c50, c51, c52⟩, -⟩, -⟩ := Sd.of HK.out
            go_wp2
            go_ret
            exact ⟨rfl, HK.out.2.1⟩
          · by_cases h1 : m = 1
            · have hle := HFL.out h1
              by_cases hZ0 : Z = 0
              · have hzs : ((zstr Z).toList == [48]) = true := by rw [zstr_is0]; exact decide_eq_true hZ0
                subst h1
                clear hle hZ0
                go_wp2_with fail
                refine (answers08_c _ HK.out.1).mono ?_
                rintro r w4 ⟨rfl, hb⟩
                clear c00 c01 c02 c10 c11 c12 c20 c21 c22 c30 c31 c32 c40 c41 c42 c50 c51 c52
                have hk := HK.out.keep hb
                replace HK := Lib.hid hk
                clear hk hb
                obtain ⟨⟨⟨c00, c01, c02⟩, ⟨c10, c11, c12⟩, ⟨c20, c21, c22⟩, ⟨c30, c31, c32⟩, ⟨c40, c41, c42⟩, ⟨c50, c51, c52⟩, -⟩, -⟩ := Sd.of HK.out
                go_wp2
                go_ret
                exact ⟨rfl, HK.out.2.1⟩
              · have hzs : ((zstr Z).toList == [48]) = false := by rw [zstr_is0]; exact decide_eq_false hZ0
                have hzn : zneg Z = true := by unfold zneg; exact decide_eq_true (by omega)
                subst h1
                clear hle hZ0
                go_wp2_with fail
                refine (answers08_c _ HK.out.1).mono ?_
                rintro r w4 ⟨rfl, hb⟩
                clear c00 c01 c02 c10 c11 c12 c20 c21 c22 c30 c31 c32 c40 c41 c42 c50 c51 c52
                have hk := HK.out.keep hb
                replace HK := Lib.hid hk
                clear hk hb
                obtain ⟨⟨⟨c00, c01, c02⟩, ⟨c10, c11, c12⟩, ⟨c20, c21, c22⟩, ⟨c30, c31, c32⟩, ⟨c40, c41, c42⟩, ⟨c50, c51, c52⟩, -⟩, -⟩ := Sd.of HK.out
                go_wp2
                go_ret
                exact ⟨rfl, HK.out.2.1⟩
            · have h0b : (m != 0) = true := by simpa using h0
              have h1b : (m != 1) = true := by simpa using h1
              by_cases h4 : 4 ≤ m
              · have hc2 := HC20.out (by omega)
                go_wp2_with fail
                refine (HC2.out _ HK.out.1).mono ?_
                rintro r w4 ⟨rfl, hb⟩
                clear c00 c01 c02 c10 c11 c12 c20 c21 c22 c30 c31 c32 c40 c41 c42 c50 c51 c52
                have hk := HK.out.keep hb
                replace HK := Lib.hid hk
                clear hk hb
                obtain ⟨⟨⟨c00, c01, c02⟩, ⟨c10, c11, c12⟩, ⟨c20, c21, c22⟩, ⟨c30, c31, c32⟩, ⟨c40, c41, c42⟩, ⟨c50, c51, c52⟩, -⟩, -⟩ := Sd.of HK.out
                go_wp2_with fail
                refine (answers08_c _ HK.out.1).mono ?_
                rintro r w5 ⟨rfl, hb⟩
                clear c00 c01 c02 c10 c11 c12 c20 c21 c22 c30 c31 c32 c40 c41 c42 c50 c51 c52
                have hk := HK.out.keep hb
                replace HK := Lib.hid hk
                clear hk hb
                obtain ⟨⟨⟨c00, c01, c02⟩, ⟨c10, c11, c12⟩, ⟨c20, c21, c22⟩, ⟨c30, c31, c32⟩, ⟨c40, c41, c42⟩, ⟨c50, c51, c52⟩, -⟩, -⟩ := Sd.of HK.out
                go_wp2
                go_ret
                exact ⟨rfl, HK.out.2.1⟩
              · go_wp2_with fail
                refine (answers08_c _ HK.out.1).mono ?_
                rintro r w4 ⟨rfl, hb⟩
                clear c00 c01 c02 c10 c11 c12 c20 c21 c22 c30 c31 c32 c40 c41 c42 c50 c51 c52
                have hk := HK.out.keep hb
                replace HK := Lib.hid hk
                clear hk hb
                obtain ⟨⟨⟨c00, c01, c02⟩, ⟨c10, c11, c12⟩, ⟨c20, c21, c22⟩, ⟨c30, c31, c32⟩, ⟨c40, c41, c42⟩, ⟨c50, c51, c52⟩, -⟩, -⟩ := Sd.of HK.out
                go_wp2
                go_ret
                exact ⟨rfl, HK.out.2.1⟩
end Go.Proofs.YtonanpnacoegcaaDoor
