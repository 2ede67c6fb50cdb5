/-
  SigScales: the walk.
-/
import Derived.Test.YtkfjombeaidimaaDoorAn9
set_option maxRecDepth 100000
namespace Go.Proofs.YtkfjombeaidimaaDoor
open Go.RowKit
attribute [local go_sem] dec_field0 dec_field1 dec_field2 in
set_option maxHeartbeats 16000000 in
set_option maxRecDepth 100000 in
theorem walk_sigScales (m : Int) (nd : Bool) (sd : ByteArray) (ed : Int) (n : Int) (up : Int) (w : World) (hm : -9223372036854775808 ≤ m ∧ m ≤ 9223372036854775807) (hd : sd.size ≤ maxLen) (hn : 0 ≤ n ∧ n ≤ 255) (hup : 0 ≤ up ∧ up ≤ 255) (hP : Pw w) :
    Calls Tryd.prog 6 #[.int .i64 m, .agg #[.bool nd, .string sd, .int .i64 ed], .int .u8 n, .int .u8 up] w fun e w' => e = .returned (.bool true) ∧ Below w.heap.size w w' := by
  obtain ⟨j, hj1⟩ : ∃ j : Int, n.tmod 40 = j := ⟨_, rfl⟩
  have hj2 : n % 40 = j := by rw [← hj1, Int.tmod_eq_emod_of_nonneg (by omega)]
  have hj0 : 0 ≤ j ∧ j < 40 := by omega
  obtain ⟨hj3, hj4⟩ := hj0
  obtain ⟨N, hN⟩ : ∃ N : Nat, j + 1 = (N : Int) := ⟨(j + 1).toNat, by omega⟩
  have hwN : IntKind.i64.wrap (j + 1) = N := by rw [hN]; exact IntWalk.i64_in _ (by omega)
  have hN1 : 1 ≤ N := by omega
  have hN2 : N ≤ 40 := by omega
  have HK := Lib.hid (kept_one w (.bool nd) (.string sd) (.int .i64 ed) 23 hP)
  clear hP
  have HG := Lib.hid (fun w hP => good09_c nd sd ed w hd hP)
  rcases hg : g9 sd ed with _ | _
  · rw [hg] at HG
    clear hg
    go_enter Tryd.func6, Tryd.ntmps6
    go_wp2_with fail
    refine (HG.out _ HK.out.1).mono ?_
    rintro r w1 ⟨rfl, hb⟩
    have hk := HK.out.keep hb
    replace HK := Lib.hid hk
    clear hk hb
    obtain ⟨⟨⟨c00, c01, c02⟩, -⟩, -⟩ := Sd.of HK.out
    go_wp2_with fail
    refine (answers09_c _ HK.out.1).mono ?_
    rintro r w2 ⟨rfl, hb⟩
    clear c00 c01 c02
    have hk := HK.out.keep hb
    replace HK := Lib.hid hk
    clear hk hb
    obtain ⟨⟨⟨c00, c01, c02⟩, -⟩, -⟩ := Sd.of HK.out
    go_wp2
    go_ret
    exact ⟨rfl, HK.out.2.1⟩
  · rw [hg] at HG
    obtain ⟨hf, he1, he2⟩ := g9_true hg
    obtain ⟨X, hu, hl⟩ := DU.of_fine (k := -1000) hf (by omega) (by omega) (by omega)
    have HU := Lib.hid hu
    have HDG := Lib.hid hu.digits
    clear hg hf hu
    by_cases hm1 : m < 0
    · go_enter Tryd.func6, Tryd.ntmps6
      go_wp2_with fail
      refine (HG.out _ HK.out.1).mono ?_
      rintro r w1 ⟨rfl, hb⟩
      have hk := HK.out.keep hb
      replace HK := Lib.hid hk
      clear hk hb
      obtain ⟨⟨⟨c00, c01, c02⟩, -⟩, -⟩ := Sd.of HK.out
      go_wp2_with fail
      refine (answers09_c _ HK.out.1).mono ?_
      rintro r w2 ⟨rfl, hb⟩
      clear c00 c01 c02
      have hk := HK.out.keep hb
      replace HK := Lib.hid hk
      clear hk hb
      obtain ⟨⟨⟨c00, c01, c02⟩, -⟩, -⟩ := Sd.of HK.out
      go_wp2
      go_ret
      exact ⟨rfl, HK.out.2.1⟩
    · by_cases hm2 : 7 < m
      · go_enter Tryd.func6, Tryd.ntmps6
        go_wp2_with fail
        refine (HG.out _ HK.out.1).mono ?_
        rintro r w1 ⟨rfl, hb⟩
        have hk := HK.out.keep hb
        replace HK := Lib.hid hk
        clear hk hb
        obtain ⟨⟨⟨c00, c01, c02⟩, -⟩, -⟩ := Sd.of HK.out
        go_wp2_with fail
        refine (answers09_c _ HK.out.1).mono ?_
        rintro r w2 ⟨rfl, hb⟩
        clear c00 c01 c02
        have hk := HK.out.keep hb
        replace HK := Lib.hid hk
        clear hk hb
        obtain ⟨⟨⟨c00, c01, c02⟩, -⟩, -⟩ := Sd.of HK.out
        go_wp2
        go_ret
        exact ⟨rfl, HK.out.2.1⟩
      · obtain ⟨u, rfl⟩ : ∃ u : Nat, up = u := ⟨up.toNat, by omega⟩
        have hu255 : u ≤ 255 := by omega
        have hwe : IntKind.i64.wrap (ed + u) = ed + u := IntWalk.i64_in _ (by omega)
        have hlu := decs_pow_le X u _ (Nat.le_refl _)
        have HFU := Lib.hid (HU.out.up u (by omega) (by omega))
        have HDF := Lib.hid HFU.out.digits
        obtain ⟨hs, ha, hb⟩ := sg_place (X := X) (n := N) (by omega) (by omega) (fun h0 => by have := HDG.out h0; omega)
        obtain ⟨p, hp⟩ : ∃ p, dtop (X) (-1000) - (N : Nat) + 1 = p := ⟨_, rfl⟩
        have HS := Lib.hid (sgW_of hp hs)
        rw [hp] at ha hb
        clear hs
        obtain ⟨hsF, haF, hbF⟩ := sg_place (X := X * 10 ^ u) (n := N) (by omega) (by omega) (fun h0 => by have := HDF.out h0; omega)
        obtain ⟨pF, hpF⟩ : ∃ p, dtop (X * 10 ^ u) (-1000) - (N : Nat) + 1 = p := ⟨_, rfl⟩
        have HSF := Lib.hid (sgW_of hpF hsF)
        rw [hpF] at haF hbF
        clear hsF
        have hfn := fun n => sgW_finer m n (-1000) HS.out HSF.out
        by_cases h7 : m = 7
        · by_cases hx : X % (10 ^ (p - -1000).toNat) = 0
          · subst h7
            have hR : rndN 7 nd X (10 ^ (p - -1000).toNat) = X := rndN_mult hx
            obtain ⟨R, hRX⟩ : ∃ R, X = R := ⟨_, rfl⟩
            have HR := Lib.hid (fun (w : World) (hP : Pw w) => sigRound_u (m := 7) (n := nd) (a := N) (w := w) (v := .tuple #[.agg #[.bool nd, .string (nstr R), .int .i64 (nexp R (-1000))], .int .i64 0]) (isWay_true (by omega) (by omega)) HU.out (by omega) (by omega) hp ha (by omega) rfl (by rw [rndV_mult hx, hRX]) hP)
            have HQ := Lib.hid (fun (w : World) (hP : Pw w) => sigRound_u (m := 7) (n := nd) (a := N) (w := w) (v := .tuple #[.agg #[.bool nd, .string (nstr R), .int .i64 (nexp R (-1000 + u))], .int .i64 0]) (isWay_true (by omega) (by omega)) HFU.out (by omega) (by omega) hpF haF (by omega) rfl (by rw [hfn, rndV_mult hx, hRX]) hP)
            replace hR := hR.trans hRX
            clear hx hRX hfn
            have hRl := rnd_len 7 nd (L := 1450) (X := X) (by omega) (Nat.le_trans (pow_len (p - -1000).toNat) (by omega)) (pow_pos10 _)
            rw [hR] at hRl
            obtain ⟨hx1, hx2⟩ := nexp_bound R (-1000) (by omega) (by omega) (by omega)
            have hwx : IntKind.i64.wrap (nexp R (-1000) + u) = nexp R (-1000) + u := IntWalk.i64_in _ (by omega)
            have HN := Lib.hid (fun (w : World) (hP : Pw w) => ref5Norm_up (n := nd) (k := -1000) (R := R) (u := u) (w := w) (by omega) (by omega) (by omega) (by omega) hP)
            clear hR hRl
            go_enter Tryd.func6, Tryd.ntmps6
            go_wp2_with fail
            refine (HG.out _ HK.out.1).mono ?_
            rintro r w1 ⟨rfl, hb⟩
            have hk := HK.out.keep hb
            replace HK := Lib.hid hk
            clear hk hb
            obtain ⟨⟨⟨c00, c01, c02⟩, -⟩, -⟩ := Sd.of HK.out
            have HKN := Lib.hid (show Kept3 w [(w.heap.size, .bool nd, .string sd, .int .i64 (ed)), (w1.heap.size, .bool nd, .string sd, .int .i64 (ed + u))] (w1.alloc (.cells #[.bool nd, .string sd, .int .i64 (ed + u)] 23)) from HK.out.grow _ _ _ _)
            obtain ⟨⟨⟨b00, b01, b02⟩, ⟨b10, b11, b12⟩, -⟩, -⟩ := Sd.of HKN.out
            go_wp2_with fail
            clear c00 c01 c02 b00 b01 b02 b10 b11 b12 HK
            have HK := Lib.hid HKN.out
            clear HKN
            obtain ⟨⟨⟨c00, c01, c02⟩, ⟨c10, c11, c12⟩, -⟩, -⟩ := Sd.of HK.out
            refine (HR.out _ HK.out.1).mono ?_
            rintro r w2 ⟨rfl, hb⟩
            clear c00 c01 c02 c10 c11 c12
            have hk := HK.out.keep hb
            replace HK := Lib.hid hk
            clear hk hb
            obtain ⟨⟨⟨c00, c01, c02⟩, ⟨c10, c11, c12⟩, -⟩, -⟩ := Sd.of HK.out
            have hz0 := (HK.out.2.2 _ (.head _)).2.2.2.2.2.2
            have hz1 := (HK.out.2.2 _ (.tail _ (.head _))).2.2.2.2.2.2
            have hzw := HK.out.2.1.size
            have hpw := HK.out.1.blk
            clear c00 c01 c02 c10 c11 c12
            replace HK := Lib.hid (show Kept3 w [(w.heap.size, .bool nd, .string sd, .int .i64 (ed)), (w1.heap.size, .bool nd, .string sd, .int .i64 (ed + u)), (w2.heap.size, .bool nd, .string (nstr R), .int .i64 (nexp R (-1000)))] (w2.alloc (.cells #[.bool nd, .string (nstr R), .int .i64 (nexp R (-1000))] 23)) from HK.out.grow _ _ _ _)
            obtain ⟨⟨⟨c00, c01, c02⟩, ⟨c10, c11, c12⟩, ⟨c20, c21, c22⟩, -⟩, -⟩ := Sd.of HK.out
            go_wp2_with fail
            refine (HQ.out _ HK.out.1).mono ?_
            rintro r w3 ⟨rfl, hb⟩
            clear c00 c01 c02 c10 c11 c12 c20 c21 c22
            have hk := HK.out.keep hb
            replace HK := Lib.hid hk
            clear hk hb
            obtain ⟨⟨⟨c00, c01, c02⟩, ⟨c10, c11, c12⟩, ⟨c20, c21, c22⟩, -⟩, -⟩ := Sd.of HK.out
            have hz2 := (HK.out.2.2 _ (.tail _ (.tail _ (.head _)))).2.2.2.2.2.2
            have hf2 := (HK.out.2.2 _ (.tail _ (.tail _ (.head _)))).2.2.2.2.2.1
            have HK2 := Lib.hid (show Kept3 w [(w.heap.size, .bool nd, .string sd, .int .i64 (ed)), (w1.heap.size, .bool nd, .string sd, .int .i64 (ed + u)), (w2.heap.size, .bool nd, .string (nstr R), .int .i64 (nexp R (-1000) + u))] _ from Kept3.set2 (L1 := [_, _]) (L2 := []) HK.out (by omega) (by omega) (by intro t ht; simp at ht; rcases ht with rfl | rfl <;> (dsimp only; omega)) (.int .i64 (nexp R (-1000) + u)))
            have HK3 := Lib.hid (show Kept3 w [(w.heap.size, .bool nd, .string sd, .int .i64 (ed)), (w1.heap.size, .bool nd, .string sd, .int .i64 (ed + u)), (w2.heap.size, .bool nd, .string (nstr R), .int .i64 (nexp R (-1000) + u)), (w3.heap.size, .bool nd, .string (nstr R), .int .i64 (nexp R (-1000 + u)))] _ by have h3 := HK2.out.grow (.bool nd) (.string (nstr R)) (.int .i64 (nexp R (-1000 + u))) 23; rwa [World.size_setCell] at h3)
            have HKA := Lib.hid (HK.out.grow (.bool nd) (.string (nstr R)) (.int .i64 (nexp R (-1000 + u))) 23)
            obtain ⟨⟨⟨b00, b01, b02⟩, ⟨b10, b11, b12⟩, ⟨b20, b21, b22⟩, ⟨b30, b31, b32⟩, -⟩, -⟩ := Sd.of HKA.out
            have hf3 := (HKA.out.2.2 _ (.tail _ (.tail _ (.head _)))).2.2.2.2.2.1
            go_wp2
            clear c00 c01 c02 c10 c11 c12 c20 c21 c22 b00 b01 b02 b10 b11 b12 b20 b21 b22 b30 b31 b32 HK HK2 HKA
            have HK := Lib.hid HK3.out
            clear HK3 hf2 hf3 hwx hwe
            have hS : Sd w [(w.heap.size, .bool nd, .string sd, .int .i64 (ed)), (w1.heap.size, .bool nd, .string sd, .int .i64 (ed + u)), (w2.heap.size, .bool nd, .string (nstr R), .int .i64 (nexp R (-1000) + u)), (w3.heap.size, .bool nd, .string (nstr R), .int .i64 (nexp R (-1000 + u)))] _ := .of HK.out.drew
            go_region_held3 (fun w' => ((w'.cell? ⟨w.heap.size, 0, none⟩ = some (.bool nd) ∧ w'.cell? ⟨w.heap.size, 1, none⟩ = some (.string sd) ∧ w'.cell? ⟨w.heap.size, 2, none⟩ = some (.int .i64 (ed))) ∧ (w'.cell? ⟨w1.heap.size, 0, none⟩ = some (.bool nd) ∧ w'.cell? ⟨w1.heap.size, 1, none⟩ = some (.string sd) ∧ w'.cell? ⟨w1.heap.size, 2, none⟩ = some (.int .i64 (ed + u))) ∧ (w'.cell? ⟨w2.heap.size, 0, none⟩ = some (.bool nd) ∧ w'.cell? ⟨w2.heap.size, 1, none⟩ = some (.string (nstr R)) ∧ w'.cell? ⟨w2.heap.size, 2, none⟩ = some (.int .i64 (nexp R (-1000) + u))) ∧ (w'.cell? ⟨w3.heap.size, 0, none⟩ = some (.bool nd) ∧ w'.cell? ⟨w3.heap.size, 1, none⟩ = some (.string (nstr R)) ∧ w'.cell? ⟨w3.heap.size, 2, none⟩ = some (.int .i64 (nexp R (-1000 + u)))) ∧ True) ∧ Hid (Kept3 w [(w.heap.size, .bool nd, .string sd, .int .i64 (ed)), (w1.heap.size, .bool nd, .string sd, .int .i64 (ed + u)), (w2.heap.size, .bool nd, .string (nstr R), .int .i64 (nexp R (-1000) + u)), (w3.heap.size, .bool nd, .string (nstr R), .int .i64 (nexp R (-1000 + u)))] w')) (assumption)
              (first
                | (go_at_call 9; refine (answers09_c _ (Sd.pw (w0 := w) (L := [(w.heap.size, .bool nd, .string sd, .int .i64 (ed)), (w1.heap.size, .bool nd, .string sd, .int .i64 (ed + u)), (w2.heap.size, .bool nd, .string (nstr R), .int .i64 (nexp R (-1000) + u)), (w3.heap.size, .bool nd, .string (nstr R), .int .i64 (nexp R (-1000 + u)))]) (by assumption))).mono ?_; rintro r wr ⟨rfl, hb⟩; have hS := Sd.keep (w0 := w) (L := [(w.heap.size, .bool nd, .string sd, .int .i64 (ed)), (w1.heap.size, .bool nd, .string sd, .int .i64 (ed + u)), (w2.heap.size, .bool nd, .string (nstr R), .int .i64 (nexp R (-1000) + u)), (w3.heap.size, .bool nd, .string (nstr R), .int .i64 (nexp R (-1000 + u)))]) (by assumption) hb; clear hb)
                | (go_at_call 14; refine (HN.out _ (Sd.pw (w0 := w) (L := [(w.heap.size, .bool nd, .string sd, .int .i64 (ed)), (w1.heap.size, .bool nd, .string sd, .int .i64 (ed + u)), (w2.heap.size, .bool nd, .string (nstr R), .int .i64 (nexp R (-1000) + u)), (w3.heap.size, .bool nd, .string (nstr R), .int .i64 (nexp R (-1000 + u)))]) (by assumption))).mono ?_; rintro r wr ⟨rfl, hb⟩; have hS := Sd.keep (w0 := w) (L := [(w.heap.size, .bool nd, .string sd, .int .i64 (ed)), (w1.heap.size, .bool nd, .string sd, .int .i64 (ed + u)), (w2.heap.size, .bool nd, .string (nstr R), .int .i64 (nexp R (-1000) + u)), (w3.heap.size, .bool nd, .string (nstr R), .int .i64 (nexp R (-1000 + u)))]) (by assumption) hb; clear hb))
            rename_i hHeld
            clear hHeld
            have HB := Lib.hid hS.bel
            clear hS
            go_wp2
            go_ret
            exact ⟨rfl, HB.out⟩
          · subst h7
            have HR := Lib.hid (fun (w : World) (hP : Pw w) => sigRound_u (m := 7) (n := nd) (a := N) (w := w) (v := .tuple #[.agg #[.bool false, .string ⟨#[]⟩, .int .i64 0], .int .i64 11]) (isWay_true (by omega) (by omega)) HU.out (by omega) (by omega) hp ha (by omega) rfl (rndV_no hx) hP)
            have HQ := Lib.hid (fun (w : World) (hP : Pw w) => sigRound_u (m := 7) (n := nd) (a := N) (w := w) (v := .tuple #[.agg #[.bool false, .string ⟨#[]⟩, .int .i64 0], .int .i64 11]) (isWay_true (by omega) (by omega)) HFU.out (by omega) (by omega) hpF haF (by omega) rfl (by rw [hfn]; exact rndV_no hx) hP)
            clear hx hfn
            have hwx : IntKind.i64.wrap (0 + (u : Int)) = (u : Int) := by rw [Int.zero_add]; exact IntWalk.i64_in _ (by omega)
            go_enter Tryd.func6, Tryd.ntmps6
            go_wp2_with fail
            refine (HG.out _ HK.out.1).mono ?_
            rintro r w1 ⟨rfl, hb⟩
            have hk := HK.out.keep hb
            replace HK := Lib.hid hk
            clear hk hb
            obtain ⟨⟨⟨c00, c01, c02⟩, -⟩, -⟩ := Sd.of HK.out
            have HKN := Lib.hid (show Kept3 w [(w.heap.size, .bool nd, .string sd, .int .i64 (ed)), (w1.heap.size, .bool nd, .string sd, .int .i64 (ed + u))] (w1.alloc (.cells #[.bool nd, .string sd, .int .i64 (ed + u)] 23)) from HK.out.grow _ _ _ _)
            obtain ⟨⟨⟨b00, b01, b02⟩, ⟨b10, b11, b12⟩, -⟩, -⟩ := Sd.of HKN.out
            go_wp2_with fail
            clear c00 c01 c02 b00 b01 b02 b10 b11 b12 HK
            have HK := Lib.hid HKN.out
            clear HKN
            obtain ⟨⟨⟨c00, c01, c02⟩, ⟨c10, c11, c12⟩, -⟩, -⟩ := Sd.of HK.out
            refine (HR.out _ HK.out.1).mono ?_
            rintro r w2 ⟨rfl, hb⟩
            clear c00 c01 c02 c10 c11 c12
            have hk := HK.out.keep hb
            replace HK := Lib.hid hk
            clear hk hb
            obtain ⟨⟨⟨c00, c01, c02⟩, ⟨c10, c11, c12⟩, -⟩, -⟩ := Sd.of HK.out
            have hz0 := (HK.out.2.2 _ (.head _)).2.2.2.2.2.2
            have hz1 := (HK.out.2.2 _ (.tail _ (.head _))).2.2.2.2.2.2
            have hzw := HK.out.2.1.size
            have hpw := HK.out.1.blk
            clear c00 c01 c02 c10 c11 c12
            replace HK := Lib.hid (show Kept3 w [(w.heap.size, .bool nd, .string sd, .int .i64 (ed)), (w1.heap.size, .bool nd, .string sd, .int .i64 (ed + u)), (w2.heap.size, .bool false, .string ⟨#[]⟩, .int .i64 (0))] (w2.alloc (.cells #[.bool false, .string ⟨#[]⟩, .int .i64 (0)] 23)) from HK.out.grow _ _ _ _)
            obtain ⟨⟨⟨c00, c01, c02⟩, ⟨c10, c11, c12⟩, ⟨c20, c21, c22⟩, -⟩, -⟩ := Sd.of HK.out
            go_wp2_with fail
            refine (HQ.out _ HK.out.1).mono ?_
            rintro r w3 ⟨rfl, hb⟩
            clear c00 c01 c02 c10 c11 c12 c20 c21 c22
            have hk := HK.out.keep hb
            replace HK := Lib.hid hk
            clear hk hb
            obtain ⟨⟨⟨c00, c01, c02⟩, ⟨c10, c11, c12⟩, ⟨c20, c21, c22⟩, -⟩, -⟩ := Sd.of HK.out
            have hz2 := (HK.out.2.2 _ (.tail _ (.tail _ (.head _)))).2.2.2.2.2.2
            have hf2 := (HK.out.2.2 _ (.tail _ (.tail _ (.head _)))).2.2.2.2.2.1
            have HK2 := Lib.hid (show Kept3 w [(w.heap.size, .bool nd, .string sd, .int .i64 (ed)), (w1.heap.size, .bool nd, .string sd, .int .i64 (ed + u)), (w2.heap.size, .bool false, .string ⟨#[]⟩, .int .i64 (u))] _ from Kept3.set2 (L1 := [_, _]) (L2 := []) HK.out (by omega) (by omega) (by intro t ht; simp at ht; rcases ht with rfl | rfl <;> (dsimp only; omega)) (.int .i64 (u)))
            have HK3 := Lib.hid (show Kept3 w [(w.heap.size, .bool nd, .string sd, .int .i64 (ed)), (w1.heap.size, .bool nd, .string sd, .int .i64 (ed + u)), (w2.heap.size, .bool false, .string ⟨#[]⟩, .int .i64 (u)), (w3.heap.size, .bool false, .string ⟨#[]⟩, .int .i64 (0))] _ by have h3 := HK2.out.grow (.bool false) (.string ⟨#[]⟩) (.int .i64 (0)) 23; rwa [World.size_setCell] at h3)
            have HKA := Lib.hid (HK.out.grow (.bool false) (.string ⟨#[]⟩) (.int .i64 (0)) 23)
            obtain ⟨⟨⟨b00, b01, b02⟩, ⟨b10, b11, b12⟩, ⟨b20, b21, b22⟩, ⟨b30, b31, b32⟩, -⟩, -⟩ := Sd.of HKA.out
            have hf3 := (HKA.out.2.2 _ (.tail _ (.tail _ (.head _)))).2.2.2.2.2.1
            go_wp2
            clear c00 c01 c02 c10 c11 c12 c20 c21 c22 b00 b01 b02 b10 b11 b12 b20 b21 b22 b30 b31 b32 HK HK2 HKA
            have HK := Lib.hid HK3.out
            clear HK3 hf2 hf3 hwx hwe
            refine wp_region_held_drew (S := (fun w' => ((w'.cell? ⟨w.heap.size, 0, none⟩ = some (.bool nd) ∧ w'.cell? ⟨w.heap.size, 1, none⟩ = some (.string sd) ∧ w'.cell? ⟨w.heap.size, 2, none⟩ = some (.int .i64 (ed))) ∧ (w'.cell? ⟨w1.heap.size, 0, none⟩ = some (.bool nd) ∧ w'.cell? ⟨w1.heap.size, 1, none⟩ = some (.string sd) ∧ w'.cell? ⟨w1.heap.size, 2, none⟩ = some (.int .i64 (ed + u))) ∧ (w'.cell? ⟨w2.heap.size, 0, none⟩ = some (.bool false) ∧ w'.cell? ⟨w2.heap.size, 1, none⟩ = some (.string ⟨#[]⟩) ∧ w'.cell? ⟨w2.heap.size, 2, none⟩ = some (.int .i64 (u))) ∧ (w'.cell? ⟨w3.heap.size, 0, none⟩ = some (.bool false) ∧ w'.cell? ⟨w3.heap.size, 1, none⟩ = some (.string ⟨#[]⟩) ∧ w'.cell? ⟨w3.heap.size, 2, none⟩ = some (.int .i64 (0))) ∧ True) ∧ Hid (Kept3 w [(w.heap.size, .bool nd, .string sd, .int .i64 (ed)), (w1.heap.size, .bool nd, .string sd, .int .i64 (ed + u)), (w2.heap.size, .bool false, .string ⟨#[]⟩, .int .i64 (u)), (w3.heap.size, .bool false, .string ⟨#[]⟩, .int .i64 (0))] w'))) (by kernel_rfl) (Sd.of HK.out.drew) (fun hHeld => ?_)
            refine step_at 0 (by kernel_rfl) rfl rfl (fun K hK => ?_)
            go_simp
            refine (answers09_c _ (Sd.pw (w0 := w) (L := [(w.heap.size, .bool nd, .string sd, .int .i64 (ed)), (w1.heap.size, .bool nd, .string sd, .int .i64 (ed + u)), (w2.heap.size, .bool false, .string ⟨#[]⟩, .int .i64 (u)), (w3.heap.size, .bool false, .string ⟨#[]⟩, .int .i64 (0))]) hHeld)).mono ?_
            rintro r wr ⟨rfl, hb⟩
            have hS := Sd.keep (w0 := w) (L := [(w.heap.size, .bool nd, .string sd, .int .i64 (ed)), (w1.heap.size, .bool nd, .string sd, .int .i64 (ed + u)), (w2.heap.size, .bool false, .string ⟨#[]⟩, .int .i64 (u)), (w3.heap.size, .bool false, .string ⟨#[]⟩, .int .i64 (0))]) hHeld hb
            clear hHeld
            skip
            clear hb
            go_wp2_with fail
            refine hK.out _ _ hS (fun hHeld => ?_)
            clear hK K hS
            try simp only [Act.put, List.setIfInBounds_toArray, List.set_cons_zero, List.set_cons_succ]
            refine' take_at 1 (v := _) rfl (by kernel_rfl) (by kernel_rfl) (by kernel_rfl) (fun _ _ _ h => h) rfl ?y1 hHeld ?r1
            case y1 =>
              intro w hSw
              try dsimp only at hSw
              go_simp
              try with_reducible rfl
            try simp only [Act.put, List.setIfInBounds_toArray, List.set_cons_zero, List.set_cons_succ]
            refine' take_at 2 (v := _) rfl (by kernel_rfl) (by kernel_rfl) (by kernel_rfl) (fun _ _ _ h => h) rfl ?y2 hHeld ?r2
            case y2 =>
              intro w hSw
              try dsimp only at hSw
              go_simp
              try with_reducible rfl
            try simp only [Act.put, List.setIfInBounds_toArray, List.set_cons_zero, List.set_cons_succ]
            refine' take_at 3 (v := _) rfl (by kernel_rfl) (by kernel_rfl) (by kernel_rfl) (fun _ _ _ h => h) rfl ?y3 hHeld ?r3
            case y3 =>
              intro w hSw
              try dsimp only at hSw
              go_simp
              try with_reducible rfl
            try simp only [Act.put, List.setIfInBounds_toArray, List.set_cons_zero, List.set_cons_succ]
            refine' take_at 4 (v := _) rfl (by kernel_rfl) (by kernel_rfl) (by kernel_rfl) (fun _ _ _ h => h) rfl ?y4 hHeld ?r4
            case y4 =>
              intro w hSw
              try dsimp only at hSw
              go_simp
              try with_reducible rfl
            try simp only [Act.put, List.setIfInBounds_toArray, List.set_cons_zero, List.set_cons_succ]
            refine' take_at 5 (v := _) rfl (by kernel_rfl) (by kernel_rfl) (by kernel_rfl) (fun _ _ _ h => h) rfl ?y5 hHeld ?r5
            case y5 =>
              intro w hSw
              try dsimp only at hSw
              go_simp
              try with_reducible rfl
            try simp only [Act.put, List.setIfInBounds_toArray, List.set_cons_zero, List.set_cons_succ]
            refine' take_at 6 (v := _) rfl (by kernel_rfl) (by kernel_rfl) (by kernel_rfl) (fun _ _ _ h => h) rfl ?y6 hHeld ?r6
            case y6 =>
              intro w hSw
              try dsimp only at hSw
              go_simp
              try with_reducible rfl
            try simp only [Act.put, List.setIfInBounds_toArray, List.set_cons_zero, List.set_cons_succ]
            refine' take_at 7 (v := _) rfl (by kernel_rfl) (by kernel_rfl) (by kernel_rfl) (fun _ _ _ h => h) rfl ?y7 hHeld ?r7
            case y7 =>
              intro w hSw
              try dsimp only at hSw
              go_simp
              try with_reducible rfl
            try simp only [Act.put, List.setIfInBounds_toArray, List.set_cons_zero, List.set_cons_succ]
            refine' take_at 8 (v := _) rfl (by kernel_rfl) (by kernel_rfl) (by kernel_rfl) (fun _ _ _ h => h) rfl ?y8 hHeld ?r8
            case y8 =>
              intro w hSw
              try dsimp only at hSw
              go_simp
              try with_reducible rfl
            try simp only [Act.put, List.setIfInBounds_toArray, List.set_cons_zero, List.set_cons_succ]
            refine' take_at 9 (v := _) rfl (by kernel_rfl) (by kernel_rfl) (by kernel_rfl) (fun _ _ _ h => h) rfl ?y9 hHeld ?r9
            case y9 =>
              intro w hSw
              try dsimp only at hSw
              go_simp
              try with_reducible rfl
            try simp only [Act.put, List.setIfInBounds_toArray, List.set_cons_zero, List.set_cons_succ]
            refine skip_at 10 rfl (by kernel_rfl) (by kernel_rfl) (by kernel_rfl) (fun _ _ _ h => h) rfl hHeld ?_
            try simp only [Act.put, List.setIfInBounds_toArray, List.set_cons_zero, List.set_cons_succ]
            refine skip_at 11 rfl (by kernel_rfl) (by kernel_rfl) (by kernel_rfl) (fun _ _ _ h => h) rfl hHeld ?_
            try simp only [Act.put, List.setIfInBounds_toArray, List.set_cons_zero, List.set_cons_succ]
            refine skip_at 12 rfl (by kernel_rfl) (by kernel_rfl) (by kernel_rfl) (fun _ _ _ h => h) rfl hHeld ?_
            try simp only [Act.put, List.setIfInBounds_toArray, List.set_cons_zero, List.set_cons_succ]
            refine skip_at 13 rfl (by kernel_rfl) (by kernel_rfl) (by kernel_rfl) (fun _ _ _ h => h) rfl hHeld ?_
            try simp only [Act.put, List.setIfInBounds_toArray, List.set_cons_zero, List.set_cons_succ]
            refine' take_at 14 (v := _) rfl (by kernel_rfl) (by kernel_rfl) (by kernel_rfl) (fun _ _ _ h => h) rfl ?y14 hHeld ?r14
            case y14 =>
              intro w hSw
              try dsimp only at hSw
              go_simp
              try with_reducible rfl
            try simp only [Act.put, List.setIfInBounds_toArray, List.set_cons_zero, List.set_cons_succ]
            refine' take_at 15 (v := _) rfl (by kernel_rfl) (by kernel_rfl) (by kernel_rfl) (fun _ _ _ h => h) rfl ?y15 hHeld ?r15
            case y15 =>
              intro w hSw
              try dsimp only at hSw
              go_simp
              try with_reducible rfl
            try simp only [Act.put, List.setIfInBounds_toArray, List.set_cons_zero, List.set_cons_succ]
            refine' take_at 16 (v := _) rfl (by kernel_rfl) (by kernel_rfl) (by kernel_rfl) (fun _ _ _ h => h) rfl ?y16 hHeld ?r16
            case y16 =>
              intro w hSw
              try dsimp only at hSw
              go_simp
              try with_reducible rfl
            try simp only [Act.put, List.setIfInBounds_toArray, List.set_cons_zero, List.set_cons_succ]
            refine wpAnyH_done (by kernel_rfl) ?_ _
            have HB := Lib.hid (Sd.bel (w0 := w) (L := [(w.heap.size, .bool nd, .string sd, .int .i64 (ed)), (w1.heap.size, .bool nd, .string sd, .int .i64 (ed + u)), (w2.heap.size, .bool false, .string ⟨#[]⟩, .int .i64 (u)), (w3.heap.size, .bool false, .string ⟨#[]⟩, .int .i64 (0))]) hHeld)
            clear hHeld
            go_wp2
            go_ret
            exact ⟨rfl, HB.out⟩
        · obtain ⟨R, hR⟩ : ∃ R, rndN m nd X (10 ^ (p - -1000).toNat) = R := ⟨_, rfl⟩
          have HR := Lib.hid (fun (w : World) (hP : Pw w) => sigRound_u (m := m) (n := nd) (a := N) (w := w) (v := .tuple #[.agg #[.bool nd, .string (nstr R), .int .i64 (nexp R (-1000))], .int .i64 0]) (isWay_true (by omega) (by omega)) HU.out (by omega) (by omega) hp ha (by omega) rfl (by rw [rndV_of h7, hR]) hP)
          have HQ := Lib.hid (fun (w : World) (hP : Pw w) => sigRound_u (m := m) (n := nd) (a := N) (w := w) (v := .tuple #[.agg #[.bool nd, .string (nstr R), .int .i64 (nexp R (-1000 + u))], .int .i64 0]) (isWay_true (by omega) (by omega)) HFU.out (by omega) (by omega) hpF haF (by omega) rfl (by rw [hfn, rndV_of h7, hR]) hP)
          clear hfn
          have hRl := rnd_len m nd (L := 1450) (X := X) (by omega) (Nat.le_trans (pow_len (p - -1000).toNat) (by omega)) (pow_pos10 _)
          rw [hR] at hRl
          obtain ⟨hx1, hx2⟩ := nexp_bound R (-1000) (by omega) (by omega) (by omega)
          have hwx : IntKind.i64.wrap (nexp R (-1000) + u) = nexp R (-1000) + u := IntWalk.i64_in _ (by omega)
          have HN := Lib.hid (fun (w : World) (hP : Pw w) => ref5Norm_up (n := nd) (k := -1000) (R := R) (u := u) (w := w) (by omega) (by omega) (by omega) (by omega) hP)
          clear hR hRl
          go_enter Tryd.func6, Tryd.ntmps6
          go_wp2_with fail
          refine (HG.out _ HK.out.1).mono ?_
          rintro r w1 ⟨rfl, hb⟩
          have hk := HK.out.keep hb
          replace HK := Lib.hid hk
          clear hk hb
          obtain ⟨⟨⟨c00, c01, c02⟩, -⟩, -⟩ := Sd.of HK.out
          have HKN := Lib.hid (show Kept3 w [(w.heap.size, .bool nd, .string sd, .int .i64 (ed)), (w1.heap.size, .bool nd, .string sd, .int .i64 (ed + u))] (w1.alloc (.cells #[.bool nd, .string sd, .int .i64 (ed + u)] 23)) from HK.out.grow _ _ _ _)
          obtain ⟨⟨⟨b00, b01, b02⟩, ⟨b10, b11, b12⟩, -⟩, -⟩ := Sd.of HKN.out
          go_wp2_with fail
          clear c00 c01 c02 b00 b01 b02 b10 b11 b12 HK
          have HK := Lib.hid HKN.out
          clear HKN
          obtain ⟨⟨⟨c00, c01, c02⟩, ⟨c10, c11, c12⟩, -⟩, -⟩ := Sd.of HK.out
          refine (HR.out _ HK.out.1).mono ?_
          rintro r w2 ⟨rfl, hb⟩
          clear c00 c01 c02 c10 c11 c12
          have hk := HK.out.keep hb
          replace HK := Lib.hid hk
          clear hk hb
          obtain ⟨⟨⟨c00, c01, c02⟩, ⟨c10, c11, c12⟩, -⟩, -⟩ := Sd.of HK.out
          have hz0 := (HK.out.2.2 _ (.head _)).2.2.2.2.2.2
          have hz1 := (HK.out.2.2 _ (.tail _ (.head _))).2.2.2.2.2.2
          have hzw := HK.out.2.1.size
          have hpw := HK.out.1.blk
          clear c00 c01 c02 c10 c11 c12
          replace HK := Lib.hid (show Kept3 w [(w.heap.size, .bool nd, .string sd, .int .i64 (ed)), (w1.heap.size, .bool nd, .string sd, .int .i64 (ed + u)), (w2.heap.size, .bool nd, .string (nstr R), .int .i64 (nexp R (-1000)))] (w2.alloc (.cells #[.bool nd, .string (nstr R), .int .i64 (nexp R (-1000))] 23)) from HK.out.grow _ _ _ _)
          obtain ⟨⟨⟨c00, c01, c02⟩, ⟨c10, c11, c12⟩, ⟨c20, c21, c22⟩, -⟩, -⟩ := Sd.of HK.out
          go_wp2_with fail
          refine (HQ.out _ HK.out.1).mono ?_
          rintro r w3 ⟨rfl, hb⟩
          clear c00 c01 c02 c10 c11 c12 c20 c21 c22
          have hk := HK.out.keep hb
          replace HK := Lib.hid hk
          clear hk hb
          obtain ⟨⟨⟨c00, c01, c02⟩, ⟨c10, c11, c12⟩, ⟨c20, c21, c22⟩, -⟩, -⟩ := Sd.of HK.out
          have hz2 := (HK.out.2.2 _ (.tail _ (.tail _ (.head _)))).2.2.2.2.2.2
          have hf2 := (HK.out.2.2 _ (.tail _ (.tail _ (.head _)))).2.2.2.2.2.1
          have HK2 := Lib.hid (show Kept3 w [(w.heap.size, .bool nd, .string sd, .int .i64 (ed)), (w1.heap.size, .bool nd, .string sd, .int .i64 (ed + u)), (w2.heap.size, .bool nd, .string (nstr R), .int .i64 (nexp R (-1000) + u))] _ from Kept3.set2 (L1 := [_, _]) (L2 := []) HK.out (by omega) (by omega) (by intro t ht; simp at ht; rcases ht with rfl | rfl <;> (dsimp only; omega)) (.int .i64 (nexp R (-1000) + u)))
          have HK3 := Lib.hid (show Kept3 w [(w.heap.size, .bool nd, .string sd, .int .i64 (ed)), (w1.heap.size, .bool nd, .string sd, .int .i64 (ed + u)), (w2.heap.size, .bool nd, .string (nstr R), .int .i64 (nexp R (-1000) + u)), (w3.heap.size, .bool nd, .string (nstr R), .int .i64 (nexp R (-1000 + u)))] _ by have h3 := HK2.out.grow (.bool nd) (.string (nstr R)) (.int .i64 (nexp R (-1000 + u))) 23; rwa [World.size_setCell] at h3)
          have HKA := Lib.hid (HK.out.grow (.bool nd) (.string (nstr R)) (.int .i64 (nexp R (-1000 + u))) 23)
          obtain ⟨⟨⟨b00, b01, b02⟩, ⟨b10, b11, b12⟩, ⟨b20, b21, b22⟩, ⟨b30, b31, b32⟩, -⟩, -⟩ := Sd.of HKA.out
          have hf3 := (HKA.out.2.2 _ (.tail _ (.tail _ (.head _)))).2.2.2.2.2.1
          go_wp2
          clear c00 c01 c02 c10 c11 c12 c20 c21 c22 b00 b01 b02 b10 b11 b12 b20 b21 b22 b30 b31 b32 HK HK2 HKA
          have HK := Lib.hid HK3.out
          clear HK3 hf2 hf3 hwx hwe
          have hS : Sd w [(w.heap.size, .bool nd, .string sd, .int .i64 (ed)), (w1.heap.size, .bool nd, .string sd, .int .i64 (ed + u)), (w2.heap.size, .bool nd, .string (nstr R), .int .i64 (nexp R (-1000) + u)), (w3.heap.size, .bool nd, .string (nstr R), .int .i64 (nexp R (-1000 + u)))] _ := .of HK.out.drew
          go_region_held3 (fun w' => ((w'.cell? ⟨w.heap.size, 0, none⟩ = some (.bool nd) ∧ w'.cell? ⟨w.heap.size, 1, none⟩ = some (.string sd) ∧ w'.cell? ⟨w.heap.size, 2, none⟩ = some (.int .i64 (ed))) ∧ (w'.cell? ⟨w1.heap.size, 0, none⟩ = some (.bool nd) ∧ w'.cell? ⟨w1.heap.size, 1, none⟩ = some (.string sd) ∧ w'.cell? ⟨w1.heap.size, 2, none⟩ = some (.int .i64 (ed + u))) ∧ (w'.cell? ⟨w2.heap.size, 0, none⟩ = some (.bool nd) ∧ w'.cell? ⟨w2.heap.size, 1, none⟩ = some (.string (nstr R)) ∧ w'.cell? ⟨w2.heap.size, 2, none⟩ = some (.int .i64 (nexp R (-1000) + u))) ∧ (w'.cell? ⟨w3.heap.size, 0, none⟩ = some (.bool nd) ∧ w'.cell? ⟨w3.heap.size, 1, none⟩ = some (.string (nstr R)) ∧ w'.cell? ⟨w3.heap.size, 2, none⟩ = some (.int .i64 (nexp R (-1000 + u)))) ∧ True) ∧ Hid (Kept3 w [(w.heap.size, .bool nd, .string sd, .int .i64 (ed)), (w1.heap.size, .bool nd, .string sd, .int .i64 (ed + u)), (w2.heap.size, .bool nd, .string (nstr R), .int .i64 (nexp R (-1000) + u)), (w3.heap.size, .bool nd, .string (nstr R), .int .i64 (nexp R (-1000 + u)))] w')) (assumption)
            (first
              | (go_at_call 9; refine (answers09_c _ (Sd.pw (w0 := w) (L := [(w.heap.size, .bool nd, .string sd, .int .i64 (ed)), (w1.heap.size, .bool nd, .string sd, .int .i64 (ed + u)), (w2.heap.size, .bool nd, .string (nstr R), .int .i64 (nexp R (-1000) + u)), (w3.heap.size, .bool nd, .string (nstr R), .int .i64 (nexp R (-1000 + u)))]) (by assumption))).mono ?_; rintro r wr ⟨rfl, hb⟩; have hS := Sd.keep (w0 := w) (L := [(w.heap.size, .bool nd, .string sd, .int .i64 (ed)), (w1.heap.size, .bool nd, .string sd, .int .i64 (ed + u)), (w2.heap.size, .bool nd, .string (nstr R), .int .i64 (nexp R (-1000) + u)), (w3.heap.size, .bool nd, .string (nstr R), .int .i64 (nexp R (-1000 + u)))]) (by assumption) hb; clear hb)
              | (go_at_call 14; refine (HN.out _ (Sd.pw (w0 := w) (L := [(w.heap.size, .bool nd, .string sd, .int .i64 (ed)), (w1.heap.size, .bool nd, .string sd, .int .i64 (ed + u)), (w2.heap.size, .bool nd, .string (nstr R), .int .i64 (nexp R (-1000) + u)), (w3.heap.size, .bool nd, .string (nstr R), .int .i64 (nexp R (-1000 + u)))]) (by assumption))).mono ?_; rintro r wr ⟨rfl, hb⟩; have hS := Sd.keep (w0 := w) (L := [(w.heap.size, .bool nd, .string sd, .int .i64 (ed)), (w1.heap.size, .bool nd, .string sd, .int .i64 (ed + u)), (w2.heap.size, .bool nd, .string (nstr R), .int .i64 (nexp R (-1000) + u)), (w3.heap.size, .bool nd, .string (nstr R), .int .i64 (nexp R (-1000 + u)))]) (by assumption) hb; clear hb))
          rename_i hHeld
          clear hHeld
          have HB := Lib.hid hS.bel
          clear hS
          go_wp2
          go_ret
          exact ⟨rfl, HB.out⟩
end Go.Proofs.YtkfjombeaidimaaDoor
