/-
  SigRounds: the walk.
-/
import Derived.Test.YtkfjombeaidimaaDoorAn9
import Derived.Deep.DeepCutAuto
set_option linter.unusedSimpArgs false
set_option maxRecDepth 100000
namespace Go.Proofs.YtkfjombeaidimaaDoor
open Go.RowKit
attribute [local go_sem] dec_field0 dec_field1 dec_field2 in
set_option maxHeartbeats 16000000 in
set_option maxRecDepth 100000 in
theorem walk_sigRounds (m : Int) (nd : Bool) (sd : ByteArray) (ed : Int) (n : Int) (w : World) (hm : -9223372036854775808 ≤ m ∧ m ≤ 9223372036854775807) (hd : sd.size ≤ maxLen) (hn : -9223372036854775808 ≤ n ∧ n ≤ 9223372036854775807) (hP : Pw w) :
    Calls Tryd.prog 3 #[.int .i64 m, .agg #[.bool nd, .string sd, .int .i64 ed], .int .i64 n] w fun e w' => e = .returned (.bool true) ∧ Below w.heap.size w w' := by
  have HK := Lib.hid (kept_one w (.bool nd) (.string sd) (.int .i64 ed) 23 hP)
  clear hP
  have HG := Lib.hid (fun w hP => good09_c nd sd ed w hd hP)
  rcases hg : g9 sd ed with _ | _
  · rw [hg] at HG
    clear hg
    go_enter Tryd.func3, Tryd.ntmps3
    go_wp2_with fail
    refine (HG.out _ HK.out.1).mono ?_
    rintro r w1 ⟨rfl, hb⟩
    have hk := HK.out.keep hb
    replace HK := Lib.hid hk
    clear hk hb
    obtain ⟨⟨⟨c00, c01, c02⟩, -⟩, -⟩ := Sd.of HK.out
    go_wp2_with fail
    refine (answers09_c _ HK.out.1).mono ?_
    rintro r w2 ⟨rfl, hb⟩
    clear c00 c01 c02
    have hk := HK.out.keep hb
    replace HK := Lib.hid hk
    clear hk hb
    obtain ⟨⟨⟨c00, c01, c02⟩, -⟩, -⟩ := Sd.of HK.out
    go_wp2
    go_ret
    exact ⟨rfl, HK.out.2.1⟩
  · rw [hg] at HG
    obtain ⟨hf, he1, he2⟩ := g9_true hg
    obtain ⟨X, hu, hl⟩ := DU.of_fine (k := -1000) hf (by omega) (by omega) (by omega)
    have HU := Lib.hid hu
    have HDG := Lib.hid hu.digits
    clear hg hf hu
    by_cases hn3 : 300 < n
    · go_enter Tryd.func3, Tryd.ntmps3
      go_wp2_with fail
      refine (HG.out _ HK.out.1).mono ?_
      rintro r w1 ⟨rfl, hb⟩
      have hk := HK.out.keep hb
      replace HK := Lib.hid hk
      clear hk hb
      obtain ⟨⟨⟨c00, c01, c02⟩, -⟩, -⟩ := Sd.of HK.out
      go_wp2_with fail
      refine (answers09_c _ HK.out.1).mono ?_
      rintro r w2 ⟨rfl, hb⟩
      clear c00 c01 c02
      have hk := HK.out.keep hb
      replace HK := Lib.hid hk
      clear hk hb
      obtain ⟨⟨⟨c00, c01, c02⟩, -⟩, -⟩ := Sd.of HK.out
      go_wp2
      go_ret
      exact ⟨rfl, HK.out.2.1⟩
    · by_cases hn1 : n < 1
      · by_cases hm1 : m < 0
        · have HR := Lib.hid (fun w => sigRound_low (m := m) (n := nd) (s := sd) (e := ed) (a := n) (w := w) (by omega))
          go_enter Tryd.func3, Tryd.ntmps3
          go_wp2_with fail
          refine (HG.out _ HK.out.1).mono ?_
          rintro r w1 ⟨rfl, hb⟩
          have hk := HK.out.keep hb
          replace HK := Lib.hid hk
          clear hk hb
          obtain ⟨⟨⟨c00, c01, c02⟩, -⟩, -⟩ := Sd.of HK.out
          go_wp2_with fail
          refine (HR.out _).mono ?_
          rintro r w2 ⟨rfl, hb⟩
          clear c00 c01 c02
          have hk := HK.out.keep hb
          replace HK := Lib.hid hk
          clear hk hb
          replace HK := Lib.hid (show Kept3 w [(w.heap.size, .bool nd, .string sd, .int .i64 (ed)), (w2.heap.size, .bool false, .string ⟨#[]⟩, .int .i64 (0))] (w2.alloc (.cells #[.bool false, .string ⟨#[]⟩, .int .i64 (0)] 23)) from HK.out.grow _ _ _ _)
          obtain ⟨⟨⟨c00, c01, c02⟩, ⟨c10, c11, c12⟩, -⟩, -⟩ := Sd.of HK.out
          go_wp2_with fail
          refine (answers09_c _ HK.out.1).mono ?_
          rintro r w3 ⟨rfl, hb⟩
          clear c00 c01 c02 c10 c11 c12
          have hk := HK.out.keep hb
          replace HK := Lib.hid hk
          clear hk hb
          obtain ⟨⟨⟨c00, c01, c02⟩, ⟨c10, c11, c12⟩, -⟩, -⟩ := Sd.of HK.out
          go_wp2
          go_ret
          exact ⟨rfl, HK.out.2.1⟩
        · by_cases hm2 : 7 < m
          · have HR := Lib.hid (fun w => sigRound_low (m := m) (n := nd) (s := sd) (e := ed) (a := n) (w := w) (by omega))
            go_enter Tryd.func3, Tryd.ntmps3
            go_wp2_with fail
            refine (HG.out _ HK.out.1).mono ?_
            rintro r w1 ⟨rfl, hb⟩
            have hk := HK.out.keep hb
            replace HK := Lib.hid hk
            clear hk hb
            obtain ⟨⟨⟨c00, c01, c02⟩, -⟩, -⟩ := Sd.of HK.out
            go_wp2_with fail
            refine (HR.out _).mono ?_
            rintro r w2 ⟨rfl, hb⟩
            clear c00 c01 c02
            have hk := HK.out.keep hb
            replace HK := Lib.hid hk
            clear hk hb
            replace HK := Lib.hid (show Kept3 w [(w.heap.size, .bool nd, .string sd, .int .i64 (ed)), (w2.heap.size, .bool false, .string ⟨#[]⟩, .int .i64 (0))] (w2.alloc (.cells #[.bool false, .string ⟨#[]⟩, .int .i64 (0)] 23)) from HK.out.grow _ _ _ _)
            obtain ⟨⟨⟨c00, c01, c02⟩, ⟨c10, c11, c12⟩, -⟩, -⟩ := Sd.of HK.out
            go_wp2_with fail
            refine (answers09_c _ HK.out.1).mono ?_
            rintro r w3 ⟨rfl, hb⟩
            clear c00 c01 c02 c10 c11 c12
            have hk := HK.out.keep hb
            replace HK := Lib.hid hk
            clear hk hb
            obtain ⟨⟨⟨c00, c01, c02⟩, ⟨c10, c11, c12⟩, -⟩, -⟩ := Sd.of HK.out
            go_wp2
            go_ret
            exact ⟨rfl, HK.out.2.1⟩
          · have HR := Lib.hid (fun w => sigRound_low (m := m) (n := nd) (s := sd) (e := ed) (a := n) (w := w) (by omega))
            go_enter Tryd.func3, Tryd.ntmps3
            go_wp2_with fail
            refine (HG.out _ HK.out.1).mono ?_
            rintro r w1 ⟨rfl, hb⟩
            have hk := HK.out.keep hb
            replace HK := Lib.hid hk
            clear hk hb
            obtain ⟨⟨⟨c00, c01, c02⟩, -⟩, -⟩ := Sd.of HK.out
            go_wp2_with fail
            refine (HR.out _).mono ?_
            rintro r w2 ⟨rfl, hb⟩
            clear c00 c01 c02
            have hk := HK.out.keep hb
            replace HK := Lib.hid hk
            clear hk hb
            replace HK := Lib.hid (show Kept3 w [(w.heap.size, .bool nd, .string sd, .int .i64 (ed)), (w2.heap.size, .bool false, .string ⟨#[]⟩, .int .i64 (0))] (w2.alloc (.cells #[.bool false, .string ⟨#[]⟩, .int .i64 (0)] 23)) from HK.out.grow _ _ _ _)
            obtain ⟨⟨⟨c00, c01, c02⟩, ⟨c10, c11, c12⟩, -⟩, -⟩ := Sd.of HK.out
            go_wp2_with fail
            refine (answers09_c _ HK.out.1).mono ?_
            rintro r w3 ⟨rfl, hb⟩
            clear c00 c01 c02 c10 c11 c12
            have hk := HK.out.keep hb
            replace HK := Lib.hid hk
            clear hk hb
            obtain ⟨⟨⟨c00, c01, c02⟩, ⟨c10, c11, c12⟩, -⟩, -⟩ := Sd.of HK.out
            go_wp2
            go_ret
            exact ⟨rfl, HK.out.2.1⟩
      · by_cases hm1 : m < 0
        · have HR := Lib.hid (fun (w : World) (hP : Pw w) => sigRound_no (m := m) (n := nd) (a := n) (w := w) (isWay_false (by omega)) HU.out (by omega) (by omega) hP)
          go_enter Tryd.func3, Tryd.ntmps3
          go_wp2_with fail
          refine (HG.out _ HK.out.1).mono ?_
          rintro r w1 ⟨rfl, hb⟩
          have hk := HK.out.keep hb
          replace HK := Lib.hid hk
          clear hk hb
          obtain ⟨⟨⟨c00, c01, c02⟩, -⟩, -⟩ := Sd.of HK.out
          go_wp2_with fail
          refine (HR.out _ HK.out.1).mono ?_
          rintro r w2 ⟨rfl, hb⟩
          clear c00 c01 c02
          have hk := HK.out.keep hb
          replace HK := Lib.hid hk
          clear hk hb
          replace HK := Lib.hid (show Kept3 w [(w.heap.size, .bool nd, .string sd, .int .i64 (ed)), (w2.heap.size, .bool false, .string ⟨#[]⟩, .int .i64 (0))] (w2.alloc (.cells #[.bool false, .string ⟨#[]⟩, .int .i64 (0)] 23)) from HK.out.grow _ _ _ _)
          obtain ⟨⟨⟨c00, c01, c02⟩, ⟨c10, c11, c12⟩, -⟩, -⟩ := Sd.of HK.out
          go_wp2_with fail
          refine (answers09_c _ HK.out.1).mono ?_
          rintro r w3 ⟨rfl, hb⟩
          clear c00 c01 c02 c10 c11 c12
          have hk := HK.out.keep hb
          replace HK := Lib.hid hk
          clear hk hb
          obtain ⟨⟨⟨c00, c01, c02⟩, ⟨c10, c11, c12⟩, -⟩, -⟩ := Sd.of HK.out
          go_wp2
          go_ret
          exact ⟨rfl, HK.out.2.1⟩
        · by_cases hm2 : 7 < m
          · have HR := Lib.hid (fun (w : World) (hP : Pw w) => sigRound_no (m := m) (n := nd) (a := n) (w := w) (isWay_false (by omega)) HU.out (by omega) (by omega) hP)
            go_enter Tryd.func3, Tryd.ntmps3
            go_wp2_with fail
            refine (HG.out _ HK.out.1).mono ?_
            rintro r w1 ⟨rfl, hb⟩
            have hk := HK.out.keep hb
            replace HK := Lib.hid hk
            clear hk hb
            obtain ⟨⟨⟨c00, c01, c02⟩, -⟩, -⟩ := Sd.of HK.out
            go_wp2_with fail
            refine (HR.out _ HK.out.1).mono ?_
            rintro r w2 ⟨rfl, hb⟩
            clear c00 c01 c02
            have hk := HK.out.keep hb
            replace HK := Lib.hid hk
            clear hk hb
            replace HK := Lib.hid (show Kept3 w [(w.heap.size, .bool nd, .string sd, .int .i64 (ed)), (w2.heap.size, .bool false, .string ⟨#[]⟩, .int .i64 (0))] (w2.alloc (.cells #[.bool false, .string ⟨#[]⟩, .int .i64 (0)] 23)) from HK.out.grow _ _ _ _)
            obtain ⟨⟨⟨c00, c01, c02⟩, ⟨c10, c11, c12⟩, -⟩, -⟩ := Sd.of HK.out
            go_wp2_with fail
            refine (answers09_c _ HK.out.1).mono ?_
            rintro r w3 ⟨rfl, hb⟩
            clear c00 c01 c02 c10 c11 c12
            have hk := HK.out.keep hb
            replace HK := Lib.hid hk
            clear hk hb
            obtain ⟨⟨⟨c00, c01, c02⟩, ⟨c10, c11, c12⟩, -⟩, -⟩ := Sd.of HK.out
            go_wp2
            go_ret
            exact ⟨rfl, HK.out.2.1⟩
          · obtain ⟨N, rfl⟩ : ∃ N : Nat, n = N := ⟨n.toNat, by omega⟩
            obtain ⟨hs, ha, hb⟩ := sg_place (X := X) (n := N) (by omega) (by omega) (fun h0 => by have := HDG.out h0; omega)
            obtain ⟨p, hp⟩ : ∃ p, dtop (X) (-1000) - (N : Nat) + 1 = p := ⟨_, rfl⟩
            have HS := Lib.hid (sgW_of hp hs)
            rw [hp] at ha hb
            clear hs
            obtain ⟨T, hT⟩ : ∃ T, dtop X (-1000) = T := ⟨_, rfl⟩
            have htb := HU.out.top
            have HT := Lib.hid hT
            have HR := Lib.hid (fun (w : World) (hP : Pw w) => sigRound_u (m := m) (n := nd) (a := N) (w := w) (isWay_true (by omega) (by omega)) HU.out (by omega) (by omega) hp ha (by omega) rfl rfl hP)
            rw [hT] at hp htb
            clear hT
            have hw1 : IntKind.i64.wrap (T - N) = T - N := IntWalk.i64_in _ (by omega)
            have hw2 : IntKind.i64.wrap (T - N + 1) = p := by rw [hp]; exact IntWalk.i64_in _ (by omega)
            have HQ := Lib.hid (fun (w : World) (hP : Pw w) => ref5Round_u (m := m) (n := nd) (w := w) HU.out da_one (by omega) ha (by omega) (Nat.one_mul _) (by have := pow_len (p - -1000).toNat; omega) rfl hP)
            have HTP := Lib.hid (fun (w : World) (hP : Pw w) => ref5Top_u (n := nd) (w := w) HU.out HT.out hP)
            clear hp
            by_cases hm7 : m = 7 ∧ X % (10 ^ (p - -1000).toNat) ≠ 0
            · obtain ⟨h7, hx⟩ := hm7
              subst h7
              rw [rndV_no hx] at HR HQ
              clear hx
              go_enter Tryd.func3, Tryd.ntmps3
              go_wp2_with fail
              refine (HG.out _ HK.out.1).mono ?_
              rintro r w1 ⟨rfl, hb⟩
              have hk := HK.out.keep hb
              replace HK := Lib.hid hk
              clear hk hb
              obtain ⟨⟨⟨c00, c01, c02⟩, -⟩, -⟩ := Sd.of HK.out
              go_wp2_with fail
              refine (HR.out _ HK.out.1).mono ?_
              rintro r w2 ⟨rfl, hb⟩
              clear c00 c01 c02
              have hk := HK.out.keep hb
              replace HK := Lib.hid hk
              clear hk hb
              replace HK := Lib.hid (show Kept3 w [(w.heap.size, .bool nd, .string sd, .int .i64 (ed)), (w2.heap.size, .bool false, .string ⟨#[]⟩, .int .i64 (0))] (w2.alloc (.cells #[.bool false, .string ⟨#[]⟩, .int .i64 (0)] 23)) from HK.out.grow _ _ _ _)
              obtain ⟨⟨⟨c00, c01, c02⟩, ⟨c10, c11, c12⟩, -⟩, -⟩ := Sd.of HK.out
              have hz0 := (HK.out.2.2 _ (.head _)).2.2.2.2.2.2
              have hz1 := (HK.out.2.2 _ (.tail _ (.head _))).2.2.2.2.2.2
              have hzw := HK.out.2.1.size
              have hP2 := HK.out.1.blk
              simp only [World.size_alloc] at hz0 hz1 hzw hP2
              clear c00 c01 c02 c10 c11 c12
              go_wp2_with fail
              have hS : Sd w [(w.heap.size, .bool nd, .string sd, .int .i64 (ed)), (w2.heap.size, .bool false, .string ⟨#[]⟩, .int .i64 (0))] _ := .of HK.out
              go_cut [9, 10] (OneMidE w [(w.heap.size, .bool nd, .string sd, .int .i64 (ed)), (w2.heap.size, .bool false, .string ⟨#[]⟩, .int .i64 (0))] (.bool false, .string ⟨#[]⟩, .int .i64 (0)) (.int .i64 (11)))
              case first =>
                go_region_held3 (fun w' => ((w'.cell? ⟨w.heap.size, 0, none⟩ = some (.bool nd) ∧ w'.cell? ⟨w.heap.size, 1, none⟩ = some (.string sd) ∧ w'.cell? ⟨w.heap.size, 2, none⟩ = some (.int .i64 (ed))) ∧ (w'.cell? ⟨w2.heap.size, 0, none⟩ = some (.bool false) ∧ w'.cell? ⟨w2.heap.size, 1, none⟩ = some (.string ⟨#[]⟩) ∧ w'.cell? ⟨w2.heap.size, 2, none⟩ = some (.int .i64 (0))) ∧ True) ∧ Hid (Kept3 w [(w.heap.size, .bool nd, .string sd, .int .i64 (ed)), (w2.heap.size, .bool false, .string ⟨#[]⟩, .int .i64 (0))] w')) (exact (Sd.keepB (B := w2.heap.size + 1) (w0 := w) (L := [(w.heap.size, .bool nd, .string sd, .int .i64 (ed)), (w2.heap.size, .bool false, .string ⟨#[]⟩, .int .i64 (0))]) hS (by (repeat' (first | with_reducible exact Below.refl _ _ | with_reducible refine Below.drew ?_ | with_reducible refine Below.setCell ?_ ?_ _ | with_reducible refine Below.alloc ?_ ?_ _ | exact Below.refl _ _)) <;> first | omega | ((try dsimp only); (try simp only [World.size_alloc, World.size_setCell, World.size_drew]); omega)) (by intro u hu; simp at hu; rcases hu with rfl | rfl <;> (dsimp only; omega)) (by omega) (by omega)))
                  (first
                  | (go_at_call 12; refine (HTP.out _ (Sd.pw (Sd.keepB (B := w2.heap.size + 1) (w0 := w) (L := [(w.heap.size, .bool nd, .string sd, .int .i64 (ed)), (w2.heap.size, .bool false, .string ⟨#[]⟩, .int .i64 (0))]) hS (by (repeat' (first | with_reducible exact Below.refl _ _ | with_reducible refine Below.drew ?_ | with_reducible refine Below.setCell ?_ ?_ _ | with_reducible refine Below.alloc ?_ ?_ _ | exact Below.refl _ _)) <;> first | omega | ((try dsimp only); (try simp only [World.size_alloc, World.size_setCell, World.size_drew]); omega)) (by intro u hu; simp at hu; rcases hu with rfl | rfl <;> (dsimp only; omega)) (by omega) (by omega)))).mono ?_; rintro r wr ⟨rfl, hb⟩; have hS := Sd.keep (Sd.keepB (B := w2.heap.size + 1) (w0 := w) (L := [(w.heap.size, .bool nd, .string sd, .int .i64 (ed)), (w2.heap.size, .bool false, .string ⟨#[]⟩, .int .i64 (0))]) hS (by (repeat' (first | with_reducible exact Below.refl _ _ | with_reducible refine Below.drew ?_ | with_reducible refine Below.setCell ?_ ?_ _ | with_reducible refine Below.alloc ?_ ?_ _ | exact Below.refl _ _)) <;> first | omega | ((try dsimp only); (try simp only [World.size_alloc, World.size_setCell, World.size_drew]); omega)) (by intro u hu; simp at hu; rcases hu with rfl | rfl <;> (dsimp only; omega)) (by omega) (by omega)) hb; have hz := hb.size; (try simp only [World.size_alloc, World.size_drew] at hz); (first | (have BX2 := Lib.hid (BX.out.keep hb); clear BX; have BX := BX2; clear BX2) | (have BX := Lib.hid ((Box3.new _ _ _ _ _).keep hb)) | (have BX := Lib.hid ((Box3.new _ _ _ _ _).drew.keep hb)) | skip); (try obtain ⟨x0, x1, x2, xf0, xf1, xf2, xz⟩ := BX.out); (try simp only [World.size_alloc, World.size_drew] at x0 x1 x2 xf0 xf1 xf2 xz); clear hb)
                  | (go_at_call 11; refine (HQ.out _ (Sd.pw (Sd.keepB (B := w2.heap.size + 1) (w0 := w) (L := [(w.heap.size, .bool nd, .string sd, .int .i64 (ed)), (w2.heap.size, .bool false, .string ⟨#[]⟩, .int .i64 (0))]) hS (by (repeat' (first | with_reducible exact Below.refl _ _ | with_reducible refine Below.drew ?_ | with_reducible refine Below.setCell ?_ ?_ _ | with_reducible refine Below.alloc ?_ ?_ _ | exact Below.refl _ _)) <;> first | omega | ((try dsimp only); (try simp only [World.size_alloc, World.size_setCell, World.size_drew]); omega)) (by intro u hu; simp at hu; rcases hu with rfl | rfl <;> (dsimp only; omega)) (by omega) (by omega)))).mono ?_; rintro r wr ⟨rfl, hb⟩; have hS := Sd.keep (Sd.keepB (B := w2.heap.size + 1) (w0 := w) (L := [(w.heap.size, .bool nd, .string sd, .int .i64 (ed)), (w2.heap.size, .bool false, .string ⟨#[]⟩, .int .i64 (0))]) hS (by (repeat' (first | with_reducible exact Below.refl _ _ | with_reducible refine Below.drew ?_ | with_reducible refine Below.setCell ?_ ?_ _ | with_reducible refine Below.alloc ?_ ?_ _ | exact Below.refl _ _)) <;> first | omega | ((try dsimp only); (try simp only [World.size_alloc, World.size_setCell, World.size_drew]); omega)) (by intro u hu; simp at hu; rcases hu with rfl | rfl <;> (dsimp only; omega)) (by omega) (by omega)) hb; have hz := hb.size; (try simp only [World.size_alloc, World.size_drew] at hz); (first | (have BX2 := Lib.hid (BX.out.keep hb); clear BX; have BX := BX2; clear BX2) | (have BX := Lib.hid ((Box3.new _ _ _ _ _).keep hb)) | (have BX := Lib.hid ((Box3.new _ _ _ _ _).drew.keep hb)) | skip); (try obtain ⟨x0, x1, x2, xf0, xf1, xf2, xz⟩ := BX.out); (try simp only [World.size_alloc, World.size_drew] at x0 x1 x2 xf0 xf1 xf2 xz); clear hb))
                all_goals
                  go_wp2_with fail
                  go_meet
                  exact oneMidE_of (Sd.keepB (B := w2.heap.size + 1) (w0 := w) (L := [(w.heap.size, .bool nd, .string sd, .int .i64 (ed)), (w2.heap.size, .bool false, .string ⟨#[]⟩, .int .i64 (0))]) hS (by (repeat' (first | with_reducible exact Below.refl _ _ | with_reducible refine Below.drew ?_ | with_reducible refine Below.setCell ?_ ?_ _ | with_reducible refine Below.alloc ?_ ?_ _ | exact Below.refl _ _)) <;> first | omega | ((try dsimp only); (try simp only [World.size_alloc, World.size_setCell, World.size_drew]); omega)) (by intro u hu; simp at hu; rcases hu with rfl | rfl <;> (dsimp only; omega)) (by omega) (by omega)) (by refine ⟨?_, ?_, ?_, ?_, ?_, ?_, ?_⟩ <;> first | go_simp | ((try simp only [World.size_alloc, World.size_setCell]); omega))
              case rest =>
                obtain ⟨g, rfl, rfl, hk⟩ := hcut
                have HK2 := Lib.hid (show Kept3 w [(w.heap.size, .bool nd, .string sd, .int .i64 (ed)), (w2.heap.size, .bool false, .string ⟨#[]⟩, .int .i64 (0)), (g, .bool false, .string ⟨#[]⟩, .int .i64 (0))] wc from hk)
                clear HK hS hk
                have HK := Lib.hid HK2.out
                clear HK2 hz0 hz1 hzw hP2
                obtain ⟨⟨⟨c00, c01, c02⟩, ⟨c10, c11, c12⟩, ⟨c20, c21, c22⟩, -⟩, -⟩ := Sd.of HK.out
                clear hw1 hw2
                go_wp2_with fail
                refine (answers09_c _ HK.out.1).mono ?_
                rintro r w3 ⟨rfl, hb⟩
                clear c00 c01 c02 c10 c11 c12 c20 c21 c22
                have hk := HK.out.keep hb
                replace HK := Lib.hid hk
                clear hk hb
                obtain ⟨⟨⟨c00, c01, c02⟩, ⟨c10, c11, c12⟩, ⟨c20, c21, c22⟩, -⟩, -⟩ := Sd.of HK.out
                go_wp2
                go_ret
                exact ⟨rfl, HK.out.2.1⟩
            · obtain ⟨R, hR⟩ : ∃ R, rndN m nd X (10 ^ (p - -1000).toNat) = R := ⟨_, rfl⟩
              have hv : rndV m nd X (10 ^ (p - -1000).toNat) (-1000) = _ := rndV_else hm7
              rw [hv, hR] at HR HQ
              have hsz := sgW_size m nd (by omega) HS.out
              have hRl := rnd_len m nd (L := 3000) (X := X) (by omega) (Nat.le_trans (pow_len (p - -1000).toNat) (by omega)) (pow_pos10 _)
              rw [hR] at hsz hRl
              have HUR := Lib.hid (DU.z (k := -1000) (X := R) (by omega) (by omega) (by omega))
              have HCO := Lib.hid (fun (w : World) (hP : Pw w) => sigCount_u (n := nd) (w := w) HUR.out rfl hP)
              clear hR hv hm7 hRl
              go_enter Tryd.func3, Tryd.ntmps3
              go_wp2_with fail
              refine (HG.out _ HK.out.1).mono ?_
              rintro r w1 ⟨rfl, hb⟩
              have hk := HK.out.keep hb
              replace HK := Lib.hid hk
              clear hk hb
              obtain ⟨⟨⟨c00, c01, c02⟩, -⟩, -⟩ := Sd.of HK.out
              go_wp2_with fail
              refine (HR.out _ HK.out.1).mono ?_
              rintro r w2 ⟨rfl, hb⟩
              clear c00 c01 c02
              have hk := HK.out.keep hb
              replace HK := Lib.hid hk
              clear hk hb
              replace HK := Lib.hid (show Kept3 w [(w.heap.size, .bool nd, .string sd, .int .i64 (ed)), (w2.heap.size, .bool nd, .string (nstr R), .int .i64 (nexp R (-1000)))] (w2.alloc (.cells #[.bool nd, .string (nstr R), .int .i64 (nexp R (-1000))] 23)) from HK.out.grow _ _ _ _)
              obtain ⟨⟨⟨c00, c01, c02⟩, ⟨c10, c11, c12⟩, -⟩, -⟩ := Sd.of HK.out
              have hz0 := (HK.out.2.2 _ (.head _)).2.2.2.2.2.2
              have hz1 := (HK.out.2.2 _ (.tail _ (.head _))).2.2.2.2.2.2
              have hzw := HK.out.2.1.size
              have hP2 := HK.out.1.blk
              simp only [World.size_alloc] at hz0 hz1 hzw hP2
              clear c00 c01 c02 c10 c11 c12
              go_wp2_with fail
              have hS : Sd w [(w.heap.size, .bool nd, .string sd, .int .i64 (ed)), (w2.heap.size, .bool nd, .string (nstr R), .int .i64 (nexp R (-1000)))] _ := .of HK.out
              go_cut [9, 10] (OneMidE w [(w.heap.size, .bool nd, .string sd, .int .i64 (ed)), (w2.heap.size, .bool nd, .string (nstr R), .int .i64 (nexp R (-1000)))] (.bool nd, .string (nstr R), .int .i64 (nexp R (-1000))) (.int .i64 (0)))
              case first =>
                go_region_held3 (fun w' => ((w'.cell? ⟨w.heap.size, 0, none⟩ = some (.bool nd) ∧ w'.cell? ⟨w.heap.size, 1, none⟩ = some (.string sd) ∧ w'.cell? ⟨w.heap.size, 2, none⟩ = some (.int .i64 (ed))) ∧ (w'.cell? ⟨w2.heap.size, 0, none⟩ = some (.bool nd) ∧ w'.cell? ⟨w2.heap.size, 1, none⟩ = some (.string (nstr R)) ∧ w'.cell? ⟨w2.heap.size, 2, none⟩ = some (.int .i64 (nexp R (-1000)))) ∧ True) ∧ Hid (Kept3 w [(w.heap.size, .bool nd, .string sd, .int .i64 (ed)), (w2.heap.size, .bool nd, .string (nstr R), .int .i64 (nexp R (-1000)))] w')) (exact (Sd.keepB (B := w2.heap.size + 1) (w0 := w) (L := [(w.heap.size, .bool nd, .string sd, .int .i64 (ed)), (w2.heap.size, .bool nd, .string (nstr R), .int .i64 (nexp R (-1000)))]) hS (by (repeat' (first | with_reducible exact Below.refl _ _ | with_reducible refine Below.drew ?_ | with_reducible refine Below.setCell ?_ ?_ _ | with_reducible refine Below.alloc ?_ ?_ _ | exact Below.refl _ _)) <;> first | omega | ((try dsimp only); (try simp only [World.size_alloc, World.size_setCell, World.size_drew]); omega)) (by intro u hu; simp at hu; rcases hu with rfl | rfl <;> (dsimp only; omega)) (by omega) (by omega)))
                  (first
                  | (go_at_call 12; refine (HTP.out _ (Sd.pw (Sd.keepB (B := w2.heap.size + 1) (w0 := w) (L := [(w.heap.size, .bool nd, .string sd, .int .i64 (ed)), (w2.heap.size, .bool nd, .string (nstr R), .int .i64 (nexp R (-1000)))]) hS (by (repeat' (first | with_reducible exact Below.refl _ _ | with_reducible refine Below.drew ?_ | with_reducible refine Below.setCell ?_ ?_ _ | with_reducible refine Below.alloc ?_ ?_ _ | exact Below.refl _ _)) <;> first | omega | ((try dsimp only); (try simp only [World.size_alloc, World.size_setCell, World.size_drew]); omega)) (by intro u hu; simp at hu; rcases hu with rfl | rfl <;> (dsimp only; omega)) (by omega) (by omega)))).mono ?_; rintro r wr ⟨rfl, hb⟩; have hS := Sd.keep (Sd.keepB (B := w2.heap.size + 1) (w0 := w) (L := [(w.heap.size, .bool nd, .string sd, .int .i64 (ed)), (w2.heap.size, .bool nd, .string (nstr R), .int .i64 (nexp R (-1000)))]) hS (by (repeat' (first | with_reducible exact Below.refl _ _ | with_reducible refine Below.drew ?_ | with_reducible refine Below.setCell ?_ ?_ _ | with_reducible refine Below.alloc ?_ ?_ _ | exact Below.refl _ _)) <;> first | omega | ((try dsimp only); (try simp only [World.size_alloc, World.size_setCell, World.size_drew]); omega)) (by intro u hu; simp at hu; rcases hu with rfl | rfl <;> (dsimp only; omega)) (by omega) (by omega)) hb; have hz := hb.size; (try simp only [World.size_alloc, World.size_drew] at hz); (first | (have BX2 := Lib.hid (BX.out.keep hb); clear BX; have BX := BX2; clear BX2) | (have BX := Lib.hid ((Box3.new _ _ _ _ _).keep hb)) | (have BX := Lib.hid ((Box3.new _ _ _ _ _).drew.keep hb)) | skip); (try obtain ⟨x0, x1, x2, xf0, xf1, xf2, xz⟩ := BX.out); (try simp only [World.size_alloc, World.size_drew] at x0 x1 x2 xf0 xf1 xf2 xz); clear hb)
                  | (go_at_call 11; refine (HQ.out _ (Sd.pw (Sd.keepB (B := w2.heap.size + 1) (w0 := w) (L := [(w.heap.size, .bool nd, .string sd, .int .i64 (ed)), (w2.heap.size, .bool nd, .string (nstr R), .int .i64 (nexp R (-1000)))]) hS (by (repeat' (first | with_reducible exact Below.refl _ _ | with_reducible refine Below.drew ?_ | with_reducible refine Below.setCell ?_ ?_ _ | with_reducible refine Below.alloc ?_ ?_ _ | exact Below.refl _ _)) <;> first | omega | ((try dsimp only); (try simp only [World.size_alloc, World.size_setCell, World.size_drew]); omega)) (by intro u hu; simp at hu; rcases hu with rfl | rfl <;> (dsimp only; omega)) (by omega) (by omega)))).mono ?_; rintro r wr ⟨rfl, hb⟩; have hS := Sd.keep (Sd.keepB (B := w2.heap.size + 1) (w0 := w) (L := [(w.heap.size, .bool nd, .string sd, .int .i64 (ed)), (w2.heap.size, .bool nd, .string (nstr R), .int .i64 (nexp R (-1000)))]) hS (by (repeat' (first | with_reducible exact Below.refl _ _ | with_reducible refine Below.drew ?_ | with_reducible refine Below.setCell ?_ ?_ _ | with_reducible refine Below.alloc ?_ ?_ _ | exact Below.refl _ _)) <;> first | omega | ((try dsimp only); (try simp only [World.size_alloc, World.size_setCell, World.size_drew]); omega)) (by intro u hu; simp at hu; rcases hu with rfl | rfl <;> (dsimp only; omega)) (by omega) (by omega)) hb; have hz := hb.size; (try simp only [World.size_alloc, World.size_drew] at hz); (first | (have BX2 := Lib.hid (BX.out.keep hb); clear BX; have BX := BX2; clear BX2) | (have BX := Lib.hid ((Box3.new _ _ _ _ _).keep hb)) | (have BX := Lib.hid ((Box3.new _ _ _ _ _).drew.keep hb)) | skip); (try obtain ⟨x0, x1, x2, xf0, xf1, xf2, xz⟩ := BX.out); (try simp only [World.size_alloc, World.size_drew] at x0 x1 x2 xf0 xf1 xf2 xz); clear hb))
                all_goals
                  go_wp2_with fail
                  go_meet
                  exact oneMidE_of (Sd.keepB (B := w2.heap.size + 1) (w0 := w) (L := [(w.heap.size, .bool nd, .string sd, .int .i64 (ed)), (w2.heap.size, .bool nd, .string (nstr R), .int .i64 (nexp R (-1000)))]) hS (by (repeat' (first | with_reducible exact Below.refl _ _ | with_reducible refine Below.drew ?_ | with_reducible refine Below.setCell ?_ ?_ _ | with_reducible refine Below.alloc ?_ ?_ _ | exact Below.refl _ _)) <;> first | omega | ((try dsimp only); (try simp only [World.size_alloc, World.size_setCell, World.size_drew]); omega)) (by intro u hu; simp at hu; rcases hu with rfl | rfl <;> (dsimp only; omega)) (by omega) (by omega)) (by refine ⟨?_, ?_, ?_, ?_, ?_, ?_, ?_⟩ <;> first | go_simp | ((try simp only [World.size_alloc, World.size_setCell]); omega))
              case rest =>
                obtain ⟨g, rfl, rfl, hk⟩ := hcut
                have HK2 := Lib.hid (show Kept3 w [(w.heap.size, .bool nd, .string sd, .int .i64 (ed)), (w2.heap.size, .bool nd, .string (nstr R), .int .i64 (nexp R (-1000))), (g, .bool nd, .string (nstr R), .int .i64 (nexp R (-1000)))] wc from hk)
                clear HK hS hk
                have HK := Lib.hid HK2.out
                clear HK2 hz0 hz1 hzw hP2
                obtain ⟨⟨⟨c00, c01, c02⟩, ⟨c10, c11, c12⟩, ⟨c20, c21, c22⟩, -⟩, -⟩ := Sd.of HK.out
                clear hw1 hw2
                go_wp2_with fail
                refine (answers09_c _ HK.out.1).mono ?_
                rintro r w3 ⟨rfl, hb⟩
                clear c00 c01 c02 c10 c11 c12 c20 c21 c22
                have hk := HK.out.keep hb
                replace HK := Lib.hid hk
                clear hk hb
                obtain ⟨⟨⟨c00, c01, c02⟩, ⟨c10, c11, c12⟩, ⟨c20, c21, c22⟩, -⟩, -⟩ := Sd.of HK.out
                go_wp2_with fail
                refine (HCO.out _ HK.out.1).mono ?_
                rintro r w4 ⟨rfl, hb⟩
                clear c00 c01 c02 c10 c11 c12 c20 c21 c22
                have hk := HK.out.keep hb
                replace HK := Lib.hid hk
                clear hk hb
                obtain ⟨⟨⟨c00, c01, c02⟩, ⟨c10, c11, c12⟩, ⟨c20, c21, c22⟩, -⟩, -⟩ := Sd.of HK.out
                go_wp2
                go_ret
                exact ⟨rfl, HK.out.2.1⟩
end Go.Proofs.YtkfjombeaidimaaDoor
