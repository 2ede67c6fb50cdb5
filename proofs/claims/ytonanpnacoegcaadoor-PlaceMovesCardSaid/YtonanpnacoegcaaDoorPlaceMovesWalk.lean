/-
  PlaceMoves: the walk.
-/
import Derived.Test.YtonanpnacoegcaaDoorU8
set_option maxRecDepth 100000
namespace Go.Proofs.YtonanpnacoegcaaDoor
open Go.RowKit
attribute [local go_sem] dec_field0 dec_field1 dec_field2 in
set_option maxHeartbeats 16000000 in
set_option maxRecDepth 100000 in
theorem walk_placeMoves (m : Int) (nd : Bool) (sd : ByteArray) (ed : Int) (a : Int) (up : Int) (w : World) (hm : -9223372036854775808 ≤ m ∧ m ≤ 9223372036854775807) (hd : sd.size ≤ maxLen) (ha : -9223372036854775808 ≤ a ∧ a ≤ 9223372036854775807) (hup : 0 ≤ up ∧ up ≤ 255) (hP : Pw w) :
    Calls Tryd.prog 8 #[.int .i64 m, .agg #[.bool nd, .string sd, .int .i64 ed], .int .i64 a, .int .u8 up] w fun e w' => e = .returned (.bool true) ∧ Below w.heap.size w w' := by
  have HK := Lib.hid (kept_one w (.bool nd) (.string sd) (.int .i64 ed) 23 hP)
  clear hP
  have HG := Lib.hid (fun w hP => good08_c nd sd ed a w hd hP)
  rcases hg : g8 sd ed a with _ | _
  · rw [hg] at HG
    clear hg
    go_enter Tryd.func8, Tryd.ntmps8
    go_wp2_with fail
    refine (HG.out _ HK.out.1).mono ?_
    rintro r w1 ⟨rfl, hb⟩
    have hk := HK.out.keep hb
    replace HK := Lib.hid hk
    clear hk hb
    obtain ⟨⟨⟨c00, c01, c02⟩, -⟩, -⟩ := Sd.of HK.out
    go_wp2_with fail
    refine (answers08_c _ HK.out.1).mono ?_
    rintro r w2 ⟨rfl, hb⟩
    clear c00 c01 c02
    have hk := HK.out.keep hb
    replace HK := Lib.hid hk
    clear hk hb
    obtain ⟨⟨⟨c00, c01, c02⟩, -⟩, -⟩ := Sd.of HK.out
    go_wp2
    go_ret
    exact ⟨rfl, HK.out.2.1⟩
  · rw [hg] at HG
    obtain ⟨hf, ha1, ha2, he1, he2⟩ := g8_true hg
    obtain ⟨X, hu, hl⟩ := DU.of_fine (k := -400) hf (by omega) (by omega) (by omega)
    have HU := Lib.hid hu
    clear hg hf hu
    obtain ⟨u, rfl⟩ : ∃ u : Nat, up = u := ⟨up.toNat, by omega⟩
    have hu255 : u ≤ 255 := by omega
    have HWP := Lib.hid (show 0 < (10 ^ (a - -400).toNat) from pow_pos10 _)
    have hwe : IntKind.i64.wrap (ed + u) = ed + u := IntWalk.i64_in _ (by omega)
    have hwa : IntKind.i64.wrap (a + u) = a + u := IntWalk.i64_in _ (by omega)
    have HFU := Lib.hid (HU.out.up u (by omega) (by have := decs_pow_le X u _ (Nat.le_refl _); omega))
    have HW2 := Lib.hid (show 10 ^ (a + u - -400).toNat = (10 ^ (a - -400).toNat) * 10 ^ u by rw [← Nat.pow_add]; congr 1; omega)
    by_cases hmw : m < 0 ∨ 7 < m
    · have HR := Lib.hid (fun (w : World) (_ : Pw w) => placeRound_no m nd sd ed a w (isWay_false (by omega)))
      have HQ := Lib.hid (fun (w : World) (_ : Pw w) => placeRound_no m nd sd (ed + u) (a + u) w (isWay_false (by omega)))
      go_enter Tryd.func8, Tryd.ntmps8
      go_wp2_with fail
      refine (HG.out _ HK.out.1).mono ?_
      rintro r w1 ⟨rfl, hb⟩
      have hk := HK.out.keep hb
      replace HK := Lib.hid hk
      clear hk hb
      obtain ⟨⟨⟨c00, c01, c02⟩, -⟩, -⟩ := Sd.of HK.out
      have HKN := Lib.hid (show Kept3 w [(w.heap.size, .bool nd, .string sd, .int .i64 (ed)), (w1.heap.size, .bool nd, .string sd, .int .i64 (ed + u))] (w1.alloc (.cells #[.bool nd, .string sd, .int .i64 (ed + u)] 23)) from HK.out.grow _ _ _ _)
      obtain ⟨⟨⟨b00, b01, b02⟩, ⟨b10, b11, b12⟩, -⟩, -⟩ := Sd.of HKN.out
      go_wp2_with fail
      clear c00 c01 c02 b00 b01 b02 b10 b11 b12 HK
      have HK := Lib.hid HKN.out
      clear HKN
      obtain ⟨⟨⟨c00, c01, c02⟩, ⟨c10, c11, c12⟩, -⟩, -⟩ := Sd.of HK.out
      refine (HR.out _ HK.out.1).mono ?_
      rintro r w2 ⟨rfl, hb⟩
      clear c00 c01 c02 c10 c11 c12
      have hk := HK.out.keep hb
      replace HK := Lib.hid hk
      clear hk hb
      replace HK := Lib.hid (show Kept3 w [(w.heap.size, .bool nd, .string sd, .int .i64 (ed)), (w1.heap.size, .bool nd, .string sd, .int .i64 (ed + u)), (w2.heap.size, .bool false, .string ⟨#[]⟩, .int .i64 (0))] (w2.alloc (.cells #[.bool false, .string ⟨#[]⟩, .int .i64 (0)] 23)) from HK.out.grow _ _ _ _)
      obtain ⟨⟨⟨c00, c01, c02⟩, ⟨c10, c11, c12⟩, ⟨c20, c21, c22⟩, -⟩, -⟩ := Sd.of HK.out
      go_wp2_with fail
      refine (HQ.out _ HK.out.1).mono ?_
      rintro r w3 ⟨rfl, hb⟩
      clear c00 c01 c02 c10 c11 c12 c20 c21 c22
      have hk := HK.out.keep hb
      replace HK := Lib.hid hk
      clear hk hb
      replace HK := Lib.hid (show Kept3 w [(w.heap.size, .bool nd, .string sd, .int .i64 (ed)), (w1.heap.size, .bool nd, .string sd, .int .i64 (ed + u)), (w2.heap.size, .bool false, .string ⟨#[]⟩, .int .i64 (0)), (w3.heap.size, .bool false, .string ⟨#[]⟩, .int .i64 (0))] (w3.alloc (.cells #[.bool false, .string ⟨#[]⟩, .int .i64 (0)] 23)) from HK.out.grow _ _ _ _)
      obtain ⟨⟨⟨c00, c01, c02⟩, ⟨c10, c11, c12⟩, ⟨c20, c21, c22⟩, ⟨c30, c31, c32⟩, -⟩, -⟩ := Sd.of HK.out
      go_wp2_with fail
      refine (answers08_c _ HK.out.1).mono ?_
      rintro r w4 ⟨rfl, hb⟩
      clear c00 c01 c02 c10 c11 c12 c20 c21 c22 c30 c31 c32
      have hk := HK.out.keep hb
      replace HK := Lib.hid hk
      clear hk hb
      obtain ⟨⟨⟨c00, c01, c02⟩, ⟨c10, c11, c12⟩, ⟨c20, c21, c22⟩, ⟨c30, c31, c32⟩, -⟩, -⟩ := Sd.of HK.out
      go_wp2
      go_ret
      exact ⟨rfl, HK.out.2.1⟩
    · by_cases h7 : m = 7
      · by_cases hx : X % (10 ^ (a - -400).toNat) = 0
        · subst h7
          have hR : rndN 7 nd X (10 ^ (a - -400).toNat) = X := rndN_mult hx
          obtain ⟨R, hRX⟩ : ∃ R, X = R := ⟨_, rfl⟩
          have HR := Lib.hid (fun (w : World) (hP : Pw w) => placeRound_u (m := 7) (p := a) (n := nd) (w := w) (v := .tuple #[.agg #[.bool nd, .string (nstr R), .int .i64 (nexp R (-400))], .int .i64 0]) (isWay_true (by omega) (by omega)) HU.out (by omega) (by omega) rfl (by rw [rndV_mult hx, hRX]) hP)
          have HQ := Lib.hid (fun (w : World) (hP : Pw w) => placeRound_u (m := 7) (p := a + u) (n := nd) (w := w) (v := .tuple #[.agg #[.bool nd, .string (nstr R), .int .i64 (nexp R (-400 + u))], .int .i64 0]) (isWay_true (by omega) (by omega)) HFU.out (by omega) (by omega) HW2.out (by rw [rndV_finer]; rw [rndV_mult hx, hRX]) hP)
          replace hR := hR.trans hRX
          clear hx hRX
          have hRl := rnd_len 7 nd (L := 900) (X := X) (by omega) (Nat.le_trans (pow_len (a - -400).toNat) (by omega)) HWP.out
          rw [hR] at hRl
          obtain ⟨hx1, hx2⟩ := nexp_bound R (-400) (by omega) (by omega) (by omega)
          have hwx : IntKind.i64.wrap (nexp R (-400) + u) = nexp R (-400) + u := IntWalk.i64_in _ (by omega)
          have HN := Lib.hid (fun (w : World) (hP : Pw w) => ref5Norm_up (n := nd) (k := -400) (R := R) (u := u) (w := w) (by omega) (by omega) (by omega) (by omega) hP)
          clear hR hRl
          go_enter Tryd.func8, Tryd.ntmps8
          go_wp2_with fail
          refine (HG.out _ HK.out.1).mono ?_
          rintro r w1 ⟨rfl, hb⟩
          have hk := HK.out.keep hb
          replace HK := Lib.hid hk
          clear hk hb
          obtain ⟨⟨⟨c00, c01, c02⟩, -⟩, -⟩ := Sd.of HK.out
          have HKN := Lib.hid (show Kept3 w [(w.heap.size, .bool nd, .string sd, .int .i64 (ed)), (w1.heap.size, .bool nd, .string sd, .int .i64 (ed + u))] (w1.alloc (.cells #[.bool nd, .string sd, .int .i64 (ed + u)] 23)) from HK.out.grow _ _ _ _)
          obtain ⟨⟨⟨b00, b01, b02⟩, ⟨b10, b11, b12⟩, -⟩, -⟩ := Sd.of HKN.out
          go_wp2_with fail
          clear c00 c01 c02 b00 b01 b02 b10 b11 b12 HK
          have HK := Lib.hid HKN.out
          clear HKN
          obtain ⟨⟨⟨c00, c01, c02⟩, ⟨c10, c11, c12⟩, -⟩, -⟩ := Sd.of HK.out
          refine (HR.out _ HK.out.1).mono ?_
          rintro r w2 ⟨rfl, hb⟩
          clear c00 c01 c02 c10 c11 c12
          have hk := HK.out.keep hb
          replace HK := Lib.hid hk
          clear hk hb
          obtain ⟨⟨⟨c00, c01, c02⟩, ⟨c10, c11, c12⟩, -⟩, -⟩ := Sd.of HK.out
          have hz0 := (HK.out.2.2 _ (.head _)).2.2.2.2.2.2
          have hz1 := (HK.out.2.2 _ (.tail _ (.head _))).2.2.2.2.2.2
          have hzw := HK.out.2.1.size
          have hpw := HK.out.1.blk
          clear c00 c01 c02 c10 c11 c12
          replace HK := Lib.hid (show Kept3 w [(w.heap.size, .bool nd, .string sd, .int .i64 (ed)), (w1.heap.size, .bool nd, .string sd, .int .i64 (ed + u)), (w2.heap.size, .bool nd, .string (nstr R), .int .i64 (nexp R (-400)))] (w2.alloc (.cells #[.bool nd, .string (nstr R), .int .i64 (nexp R (-400))] 23)) from HK.out.grow _ _ _ _)
          obtain ⟨⟨⟨c00, c01, c02⟩, ⟨c10, c11, c12⟩, ⟨c20, c21, c22⟩, -⟩, -⟩ := Sd.of HK.out
          go_wp2_with fail
          refine (HQ.out _ HK.out.1).mono ?_
          rintro r w3 ⟨rfl, hb⟩
          clear c00 c01 c02 c10 c11 c12 c20 c21 c22
          have hk := HK.out.keep hb
          replace HK := Lib.hid hk
          clear hk hb
          obtain ⟨⟨⟨c00, c01, c02⟩, ⟨c10, c11, c12⟩, ⟨c20, c21, c22⟩, -⟩, -⟩ := Sd.of HK.out
          have hz2 := (HK.out.2.2 _ (.tail _ (.tail _ (.head _)))).2.2.2.2.2.2
          have hf2 := (HK.out.2.2 _ (.tail _ (.tail _ (.head _)))).2.2.2.2.2.1
          have HK2 := Lib.hid (show Kept3 w [(w.heap.size, .bool nd, .string sd, .int .i64 (ed)), (w1.heap.size, .bool nd, .string sd, .int .i64 (ed + u)), (w2.heap.size, .bool nd, .string (nstr R), .int .i64 (nexp R (-400) + u))] _ from Kept3.set2 (L1 := [_, _]) (L2 := []) HK.out (by omega) (by omega) (by intro t ht; simp at ht; rcases ht with rfl | rfl <;> (dsimp only; omega)) (.int .i64 (nexp R (-400) + u)))
          have HK3 := Lib.hid (show Kept3 w [(w.heap.size, .bool nd, .string sd, .int .i64 (ed)), (w1.heap.size, .bool nd, .string sd, .int .i64 (ed + u)), (w2.heap.size, .bool nd, .string (nstr R), .int .i64 (nexp R (-400) + u)), (w3.heap.size, .bool nd, .string (nstr R), .int .i64 (nexp R (-400 + u)))] _ by have h3 := HK2.out.grow (.bool nd) (.string (nstr R)) (.int .i64 (nexp R (-400 + u))) 23; rwa [World.size_setCell] at h3)
          have HKA := Lib.hid (HK.out.grow (.bool nd) (.string (nstr R)) (.int .i64 (nexp R (-400 + u))) 23)
          obtain ⟨⟨⟨b00, b01, b02⟩, ⟨b10, b11, b12⟩, ⟨b20, b21, b22⟩, ⟨b30, b31, b32⟩, -⟩, -⟩ := Sd.of HKA.out
          have hf3 := (HKA.out.2.2 _ (.tail _ (.tail _ (.head _)))).2.2.2.2.2.1
          go_wp2
          clear c00 c01 c02 c10 c11 c12 c20 c21 c22 b00 b01 b02 b10 b11 b12 b20 b21 b22 b30 b31 b32 HK HK2 HKA
          have HK := Lib.hid HK3.out
          clear HK3 hf2 hf3 hwx hwe hwa
          have hS : Sd w [(w.heap.size, .bool nd, .string sd, .int .i64 (ed)), (w1.heap.size, .bool nd, .string sd, .int .i64 (ed + u)), (w2.heap.size, .bool nd, .string (nstr R), .int .i64 (nexp R (-400) + u)), (w3.heap.size, .bool nd, .string (nstr R), .int .i64 (nexp R (-400 + u)))] _ := .of HK.out.drew
          go_region_held3 (fun w' => ((w'.cell? ⟨w.heap.size, 0, none⟩ = some (.bool nd) ∧ w'.cell? ⟨w.heap.size, 1, none⟩ = some (.string sd) ∧ w'.cell? ⟨w.heap.size, 2, none⟩ = some (.int .i64 (ed))) ∧ (w'.cell? ⟨w1.heap.size, 0, none⟩ = some (.bool nd) ∧ w'.cell? ⟨w1.heap.size, 1, none⟩ = some (.string sd) ∧ w'.cell? ⟨w1.heap.size, 2, none⟩ = some (.int .i64 (ed + u))) ∧ (w'.cell? ⟨w2.heap.size, 0, none⟩ = some (.bool nd) ∧ w'.cell? ⟨w2.heap.size, 1, none⟩ = some (.string (nstr R)) ∧ w'.cell? ⟨w2.heap.size, 2, none⟩ = some (.int .i64 (nexp R (-400) + u))) ∧ (w'.cell? ⟨w3.heap.size, 0, none⟩ = some (.bool nd) ∧ w'.cell? ⟨w3.heap.size, 1, none⟩ = some (.string (nstr R)) ∧ w'.cell? ⟨w3.heap.size, 2, none⟩ = some (.int .i64 (nexp R (-400 + u)))) ∧ True) ∧ Hid (Kept3 w [(w.heap.size, .bool nd, .string sd, .int .i64 (ed)), (w1.heap.size, .bool nd, .string sd, .int .i64 (ed + u)), (w2.heap.size, .bool nd, .string (nstr R), .int .i64 (nexp R (-400) + u)), (w3.heap.size, .bool nd, .string (nstr R), .int .i64 (nexp R (-400 + u)))] w')) (assumption)
            (first
              | (go_at_call 10; refine (answers08_c _ (Sd.pw (w0 := w) (L := [(w.heap.size, .bool nd, .string sd, .int .i64 (ed)), (w1.heap.size, .bool nd, .string sd, .int .i64 (ed + u)), (w2.heap.size, .bool nd, .string (nstr R), .int .i64 (nexp R (-400) + u)), (w3.heap.size, .bool nd, .string (nstr R), .int .i64 (nexp R (-400 + u)))]) (by assumption))).mono ?_; rintro r wr ⟨rfl, hb⟩; have hS := Sd.keep (w0 := w) (L := [(w.heap.size, .bool nd, .string sd, .int .i64 (ed)), (w1.heap.size, .bool nd, .string sd, .int .i64 (ed + u)), (w2.heap.size, .bool nd, .string (nstr R), .int .i64 (nexp R (-400) + u)), (w3.heap.size, .bool nd, .string (nstr R), .int .i64 (nexp R (-400 + u)))]) (by assumption) hb; clear hb)
              | (go_at_call 14; refine (HN.out _ (Sd.pw (w0 := w) (L := [(w.heap.size, .bool nd, .string sd, .int .i64 (ed)), (w1.heap.size, .bool nd, .string sd, .int .i64 (ed + u)), (w2.heap.size, .bool nd, .string (nstr R), .int .i64 (nexp R (-400) + u)), (w3.heap.size, .bool nd, .string (nstr R), .int .i64 (nexp R (-400 + u)))]) (by assumption))).mono ?_; rintro r wr ⟨rfl, hb⟩; have hS := Sd.keep (w0 := w) (L := [(w.heap.size, .bool nd, .string sd, .int .i64 (ed)), (w1.heap.size, .bool nd, .string sd, .int .i64 (ed + u)), (w2.heap.size, .bool nd, .string (nstr R), .int .i64 (nexp R (-400) + u)), (w3.heap.size, .bool nd, .string (nstr R), .int .i64 (nexp R (-400 + u)))]) (by assumption) hb; clear hb))
          rename_i hHeld
          clear hHeld
          have HB := Lib.hid hS.bel
          clear hS
          go_wp2
          go_ret
          exact ⟨rfl, HB.out⟩
        · subst h7
          have HR := Lib.hid (fun (w : World) (hP : Pw w) => placeRound_u (m := 7) (p := a) (n := nd) (w := w) (v := .tuple #[.agg #[.bool false, .string ⟨#[]⟩, .int .i64 0], .int .i64 11]) (isWay_true (by omega) (by omega)) HU.out (by omega) (by omega) rfl (rndV_no hx) hP)
          have HQ := Lib.hid (fun (w : World) (hP : Pw w) => placeRound_u (m := 7) (p := a + u) (n := nd) (w := w) (v := .tuple #[.agg #[.bool false, .string ⟨#[]⟩, .int .i64 0], .int .i64 11]) (isWay_true (by omega) (by omega)) HFU.out (by omega) (by omega) HW2.out (by rw [rndV_finer]; exact rndV_no hx) hP)
          clear hx
          go_enter Tryd.func8, Tryd.ntmps8
          go_wp2_with fail
          refine (HG.out _ HK.out.1).mono ?_
          rintro r w1 ⟨rfl, hb⟩
          have hk := HK.out.keep hb
          replace HK := Lib.hid hk
          clear hk hb
          obtain ⟨⟨⟨c00, c01, c02⟩, -⟩, -⟩ := Sd.of HK.out
          have HKN := Lib.hid (show Kept3 w [(w.heap.size, .bool nd, .string sd, .int .i64 (ed)), (w1.heap.size, .bool nd, .string sd, .int .i64 (ed + u))] (w1.alloc (.cells #[.bool nd, .string sd, .int .i64 (ed + u)] 23)) from HK.out.grow _ _ _ _)
          obtain ⟨⟨⟨b00, b01, b02⟩, ⟨b10, b11, b12⟩, -⟩, -⟩ := Sd.of HKN.out
          go_wp2_with fail
          clear c00 c01 c02 b00 b01 b02 b10 b11 b12 HK
          have HK := Lib.hid HKN.out
          clear HKN
          obtain ⟨⟨⟨c00, c01, c02⟩, ⟨c10, c11, c12⟩, -⟩, -⟩ := Sd.of HK.out
          refine (HR.out _ HK.out.1).mono ?_
          rintro r w2 ⟨rfl, hb⟩
          clear c00 c01 c02 c10 c11 c12
          have hk := HK.out.keep hb
          replace HK := Lib.hid hk
          clear hk hb
          replace HK := Lib.hid (show Kept3 w [(w.heap.size, .bool nd, .string sd, .int .i64 (ed)), (w1.heap.size, .bool nd, .string sd, .int .i64 (ed + u)), (w2.heap.size, .bool false, .string ⟨#[]⟩, .int .i64 (0))] (w2.alloc (.cells #[.bool false, .string ⟨#[]⟩, .int .i64 (0)] 23)) from HK.out.grow _ _ _ _)
          obtain ⟨⟨⟨c00, c01, c02⟩, ⟨c10, c11, c12⟩, ⟨c20, c21, c22⟩, -⟩, -⟩ := Sd.of HK.out
          go_wp2_with fail
          refine (HQ.out _ HK.out.1).mono ?_
          rintro r w3 ⟨rfl, hb⟩
          clear c00 c01 c02 c10 c11 c12 c20 c21 c22
          have hk := HK.out.keep hb
          replace HK := Lib.hid hk
          clear hk hb
          replace HK := Lib.hid (show Kept3 w [(w.heap.size, .bool nd, .string sd, .int .i64 (ed)), (w1.heap.size, .bool nd, .string sd, .int .i64 (ed + u)), (w2.heap.size, .bool false, .string ⟨#[]⟩, .int .i64 (0)), (w3.heap.size, .bool false, .string ⟨#[]⟩, .int .i64 (0))] (w3.alloc (.cells #[.bool false, .string ⟨#[]⟩, .int .i64 (0)] 23)) from HK.out.grow _ _ _ _)
          obtain ⟨⟨⟨c00, c01, c02⟩, ⟨c10, c11, c12⟩, ⟨c20, c21, c22⟩, ⟨c30, c31, c32⟩, -⟩, -⟩ := Sd.of HK.out
          go_wp2_with fail
          refine (answers08_c _ HK.out.1).mono ?_
          rintro r w4 ⟨rfl, hb⟩
          clear c00 c01 c02 c10 c11 c12 c20 c21 c22 c30 c31 c32
          have hk := HK.out.keep hb
          replace HK := Lib.hid hk
          clear hk hb
          obtain ⟨⟨⟨c00, c01, c02⟩, ⟨c10, c11, c12⟩, ⟨c20, c21, c22⟩, ⟨c30, c31, c32⟩, -⟩, -⟩ := Sd.of HK.out
          go_wp2
          go_ret
          exact ⟨rfl, HK.out.2.1⟩
      · obtain ⟨R, hR⟩ : ∃ R, rndN m nd X (10 ^ (a - -400).toNat) = R := ⟨_, rfl⟩
        have HR := Lib.hid (fun (w : World) (hP : Pw w) => placeRound_u (m := m) (p := a) (n := nd) (w := w) (v := .tuple #[.agg #[.bool nd, .string (nstr R), .int .i64 (nexp R (-400))], .int .i64 0]) (isWay_true (by omega) (by omega)) HU.out (by omega) (by omega) rfl (by rw [rndV_of h7, hR]) hP)
        have HQ := Lib.hid (fun (w : World) (hP : Pw w) => placeRound_u (m := m) (p := a + u) (n := nd) (w := w) (v := .tuple #[.agg #[.bool nd, .string (nstr R), .int .i64 (nexp R (-400 + u))], .int .i64 0]) (isWay_true (by omega) (by omega)) HFU.out (by omega) (by omega) HW2.out (by rw [rndV_finer]; rw [rndV_of h7, hR]) hP)
        have hRl := rnd_len m nd (L := 900) (X := X) (by omega) (Nat.le_trans (pow_len (a - -400).toNat) (by omega)) HWP.out
        rw [hR] at hRl
        obtain ⟨hx1, hx2⟩ := nexp_bound R (-400) (by omega) (by omega) (by omega)
        have hwx : IntKind.i64.wrap (nexp R (-400) + u) = nexp R (-400) + u := IntWalk.i64_in _ (by omega)
        have HN := Lib.hid (fun (w : World) (hP : Pw w) => ref5Norm_up (n := nd) (k := -400) (R := R) (u := u) (w := w) (by omega) (by omega) (by omega) (by omega) hP)
        clear hR hRl
        go_enter Tryd.func8, Tryd.ntmps8
        go_wp2_with fail
        refine (HG.out _ HK.out.1).mono ?_
        rintro r w1 ⟨rfl, hb⟩
        have hk := HK.out.keep hb
        replace HK := Lib.hid hk
        clear hk hb
        obtain ⟨⟨⟨c00, c01, c02⟩, -⟩, -⟩ := Sd.of HK.out
        have HKN := Lib.hid (show Kept3 w [(w.heap.size, .bool nd, .string sd, .int .i64 (ed)), (w1.heap.size, .bool nd, .string sd, .int .i64 (ed + u))] (w1.alloc (.cells #[.bool nd, .string sd, .int .i64 (ed + u)] 23)) from HK.out.grow _ _ _ _)
        obtain ⟨⟨⟨b00, b01, b02⟩, ⟨b10, b11, b12⟩, -⟩, -⟩ := Sd.of HKN.out
        go_wp2_with fail
        clear c00 c01 c02 b00 b01 b02 b10 b11 b12 HK
        have HK := Lib.hid HKN.out
        clear HKN
        obtain ⟨⟨⟨c00, c01, c02⟩, ⟨c10, c11, c12⟩, -⟩, -⟩ := Sd.of HK.out
        refine (HR.out _ HK.out.1).mono ?_
        rintro r w2 ⟨rfl, hb⟩
        clear c00 c01 c02 c10 c11 c12
        have hk := HK.out.keep hb
        replace HK := Lib.hid hk
        clear hk hb
        obtain ⟨⟨⟨c00, c01, c02⟩, ⟨c10, c11, c12⟩, -⟩, -⟩ := Sd.of HK.out
        have hz0 := (HK.out.2.2 _ (.head _)).2.2.2.2.2.2
        have hz1 := (HK.out.2.2 _ (.tail _ (.head _))).2.2.2.2.2.2
        have hzw := HK.out.2.1.size
        have hpw := HK.out.1.blk
        clear c00 c01 c02 c10 c11 c12
        replace HK := Lib.hid (show Kept3 w [(w.heap.size, .bool nd, .string sd, .int .i64 (ed)), (w1.heap.size, .bool nd, .string sd, .int .i64 (ed + u)), (w2.heap.size, .bool nd, .string (nstr R), .int .i64 (nexp R (-400)))] (w2.alloc (.cells #[.bool nd, .string (nstr R), .int .i64 (nexp R (-400))] 23)) from HK.out.grow _ _ _ _)
        obtain ⟨⟨⟨c00, c01, c02⟩, ⟨c10, c11, c12⟩, ⟨c20, c21, c22⟩, -⟩, -⟩ := Sd.of HK.out
        go_wp2_with fail
        refine (HQ.out _ HK.out.1).mono ?_
        rintro r w3 ⟨rfl, hb⟩
        clear c00 c01 c02 c10 c11 c12 c20 c21 c22
        have hk := HK.out.keep hb
        replace HK := Lib.hid hk
        clear hk hb
        obtain ⟨⟨⟨c00, c01, c02⟩, ⟨c10, c11, c12⟩, ⟨c20, c21, c22⟩, -⟩, -⟩ := Sd.of HK.out
        have hz2 := (HK.out.2.2 _ (.tail _ (.tail _ (.head _)))).2.2.2.2.2.2
        have hf2 := (HK.out.2.2 _ (.tail _ (.tail _ (.head _)))).2.2.2.2.2.1
        have HK2 := Lib.hid (show Kept3 w [(w.heap.size, .bool nd, .string sd, .int .i64 (ed)), (w1.heap.size, .bool nd, .string sd, .int .i64 (ed + u)), (w2.heap.size, .bool nd, .string (nstr R), .int .i64 (nexp R (-400) + u))] _ from Kept3.set2 (L1 := [_, _]) (L2 := []) HK.out (by omega) (by omega) (by intro t ht; simp at ht; rcases ht with rfl | rfl <;> (dsimp only; omega)) (.int .i64 (nexp R (-400) + u)))
        have HK3 := Lib.hid (show Kept3 w [(w.heap.size, .bool nd, .string sd, .int .i64 (ed)), (w1.heap.size, .bool nd, .string sd, .int .i64 (ed + u)), (w2.heap.size, .bool nd, .string (nstr R), .int .i64 (nexp R (-400) + u)), (w3.heap.size, .bool nd, .string (nstr R), .int .i64 (nexp R (-400 + u)))] _ by have h3 := HK2.out.grow (.bool nd) (.string (nstr R)) (.int .i64 (nexp R (-400 + u))) 23; rwa [World.size_setCell] at h3)
        have HKA := Lib.hid (HK.out.grow (.bool nd) (.string (nstr R)) (.int .i64 (nexp R (-400 + u))) 23)
        obtain ⟨⟨⟨b00, b01, b02⟩, ⟨b10, b11, b12⟩, ⟨b20, b21, b22⟩, ⟨b30, b31, b32⟩, -⟩, -⟩ := Sd.of HKA.out
        have hf3 := (HKA.out.2.2 _ (.tail _ (.tail _ (.head _)))).2.2.2.2.2.1
        go_wp2
        clear c00 c01 c02 c10 c11 c12 c20 c21 c22 b00 b01 b02 b10 b11 b12 b20 b21 b22 b30 b31 b32 HK HK2 HKA
        have HK := Lib.hid HK3.out
        clear HK3 hf2 hf3 hwx hwe hwa
        have hS : Sd w [(w.heap.size, .bool nd, .string sd, .int .i64 (ed)), (w1.heap.size, .bool nd, .string sd, .int .i64 (ed + u)), (w2.heap.size, .bool nd, .string (nstr R), .int .i64 (nexp R (-400) + u)), (w3.heap.size, .bool nd, .string (nstr R), .int .i64 (nexp R (-400 + u)))] _ := .of HK.out.drew
        go_region_held3 (fun w' => ((w'.cell? ⟨w.heap.size, 0, none⟩ = some (.bool nd) ∧ w'.cell? ⟨w.heap.size, 1, none⟩ = some (.string sd) ∧ w'.cell? ⟨w.heap.size, 2, none⟩ = some (.int .i64 (ed))) ∧ (w'.cell? ⟨w1.heap.size, 0, none⟩ = some (.bool nd) ∧ w'.cell? ⟨w1.heap.size, 1, none⟩ = some (.string sd) ∧ w'.cell? ⟨w1.heap.size, 2, none⟩ = some (.int .i64 (ed + u))) ∧ (w'.cell? ⟨w2.heap.size, 0, none⟩ = some (.bool nd) ∧ w'.cell? ⟨w2.heap.size, 1, none⟩ = some (.string (nstr R)) ∧ w'.cell? ⟨w2.heap.size, 2, none⟩ = some (.int .i64 (nexp R (-400) + u))) ∧ (w'.cell? ⟨w3.heap.size, 0, none⟩ = some (.bool nd) ∧ w'.cell? ⟨w3.heap.size, 1, none⟩ = some (.string (nstr R)) ∧ w'.cell? ⟨w3.heap.size, 2, none⟩ = some (.int .i64 (nexp R (-400 + u)))) ∧ True) ∧ Hid (Kept3 w [(w.heap.size, .bool nd, .string sd, .int .i64 (ed)), (w1.heap.size, .bool nd, .string sd, .int .i64 (ed + u)), (w2.heap.size, .bool nd, .string (nstr R), .int .i64 (nexp R (-400) + u)), (w3.heap.size, .bool nd, .string (nstr R), .int .i64 (nexp R (-400 + u)))] w')) (assumption)
          (first
            | (go_at_call 10; refine (answers08_c _ (Sd.pw (w0 := w) (L := [(w.heap.size, .bool nd, .string sd, .int .i64 (ed)), (w1.heap.size, .bool nd, .string sd, .int .i64 (ed + u)), (w2.heap.size, .bool nd, .string (nstr R), .int .i64 (nexp R (-400) + u)), (w3.heap.size, .bool nd, .string (nstr R), .int .i64 (nexp R (-400 + u)))]) (by assumption))).mono ?_; rintro r wr ⟨rfl, hb⟩; have hS := Sd.keep (w0 := w) (L := [(w.heap.size, .bool nd, .string sd, .int .i64 (ed)), (w1.heap.size, .bool nd, .string sd, .int .i64 (ed + u)), (w2.heap.size, .bool nd, .string (nstr R), .int .i64 (nexp R (-400) + u)), (w3.heap.size, .bool nd, .string (nstr R), .int .i64 (nexp R (-400 + u)))]) (by assumption) hb; clear hb)
            | (go_at_call 14; refine (HN.out _ (Sd.pw (w0 := w) (L := [(w.heap.size, .bool nd, .string sd, .int .i64 (ed)), (w1.heap.size, .bool nd, .string sd, .int .i64 (ed + u)), (w2.heap.size, .bool nd, .string (nstr R), .int .i64 (nexp R (-400) + u)), (w3.heap.size, .bool nd, .string (nstr R), .int .i64 (nexp R (-400 + u)))]) (by assumption))).mono ?_; rintro r wr ⟨rfl, hb⟩; have hS := Sd.keep (w0 := w) (L := [(w.heap.size, .bool nd, .string sd, .int .i64 (ed)), (w1.heap.size, .bool nd, .string sd, .int .i64 (ed + u)), (w2.heap.size, .bool nd, .string (nstr R), .int .i64 (nexp R (-400) + u)), (w3.heap.size, .bool nd, .string (nstr R), .int .i64 (nexp R (-400 + u)))]) (by assumption) hb; clear hb))
        rename_i hHeld
        clear hHeld
        have HB := Lib.hid hS.bel
        clear hS
        go_wp2
        go_ret
        exact ⟨rfl, HB.out⟩
end Go.Proofs.YtonanpnacoegcaaDoor
