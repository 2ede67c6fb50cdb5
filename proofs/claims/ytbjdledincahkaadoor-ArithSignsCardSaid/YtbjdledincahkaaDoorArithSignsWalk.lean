/-
  ArithSigns: the walk.
-/
import Derived.Test.YtbjdledincahkaaDoorSg6
namespace Go.Proofs.YtbjdledincahkaaDoor
open Go.RowKit
set_option maxHeartbeats 16000000 in
set_option maxRecDepth 100000 in
theorem walk_arithSigns (n0 : Bool) (s0 : ByteArray) (e0 : Int) (n1 : Bool) (s1 : ByteArray) (e1 : Int) (w : World) (h0 : s0.size ≤ maxLen) (h1 : s1.size ≤ maxLen) (hP : Pw w) :
    Calls Tryd.prog 7 #[.agg #[.bool n0, .string s0, .int .i64 e0], .agg #[.bool n1, .string s1, .int .i64 e1]] w fun e w' => e = .returned (.bool true) ∧ Below w.heap.size w w' := by
  have HK := Lib.hid (kept_two w (.bool n0) (.string s0) (.int .i64 e0) (.bool n1) (.string s1) (.int .i64 e1) 23 hP)
  clear hP
  have HG := Lib.hid (fun b w hg hP => good06_2 n0 n1 s0 s1 e0 e1 b w hg h0 h1 hP)
  rcases hgg : (fineD 200 s0 e0 && fineD 200 s1 e1) with _ | _
  · rw [hgg] at HG
    clear hgg
    go_enter Tryd.func7, Tryd.ntmps7
    go_wp2_with fail
    refine (HG.out _ _ (by simp) HK.out.1).mono ?_
    rintro r w1 ⟨rfl, hb⟩
    have hk := HK.out.keep hb
    replace HK := Lib.hid hk
    clear hk hb
    obtain ⟨⟨⟨c00, c01, c02⟩, ⟨c10, c11, c12⟩, -⟩, -⟩ := Sd.of HK.out
    go_wp2_with fail
    refine (answers06_c _ HK.out.1).mono ?_
    rintro r w2 ⟨rfl, hb⟩
    clear c00 c01 c02 c10 c11 c12
    have hk := HK.out.keep hb
    replace HK := Lib.hid hk
    clear hk hb
    obtain ⟨⟨⟨c00, c01, c02⟩, ⟨c10, c11, c12⟩, -⟩, -⟩ := Sd.of HK.out
    go_wp2
    go_ret
    exact ⟨rfl, HK.out.2.1⟩
  · rw [hgg] at HG
    simp only [Bool.and_eq_true] at hgg
    obtain ⟨hf0, hf1⟩ := hgg
    obtain ⟨nd, ne, np, T, U, X, Y, S0, S1, E0, E1, hsg⟩ := signs_of (n0 := n0) (n1 := n1) hf0 hf1
    have HS := Lib.hid hsg
    have HI1 := Lib.hid (SubIs.mk hsg.sub1)
    have HI2 := Lib.hid (SubIs.mk hsg.sub2)
    clear hsg hf0 hf1
    go_enter Tryd.func7, Tryd.ntmps7
    go_wp2_with fail
    refine (HG.out _ _ (by simp) HK.out.1).mono ?_
    rintro r w1 ⟨rfl, hb⟩
    have hk := HK.out.keep hb
    replace HK := Lib.hid hk
    clear hk hb
    obtain ⟨⟨⟨c00, c01, c02⟩, ⟨c10, c11, c12⟩, -⟩, -⟩ := Sd.of HK.out
    have hP2 := HK.out.1.blk
    have hz1 : w.heap.size + 1 < w1.heap.size := (HK.out.2.2 (w.heap.size + 1, .bool n1, .string s1, .int .i64 (e1)) (by simp)).2.2.2.2.2.2
    clear c00 c01 c02 c10 c11 c12
    go_wp2_with fail
    have hS : Sd w [(w.heap.size, .bool n0, .string s0, .int .i64 (e0)), (w.heap.size + 1, .bool n1, .string s1, .int .i64 (e1))] w1 := .of HK.out
    have hz0 : w1.drew.heap.size = w1.heap.size := rfl
    go_cut [5, 6] (SgMid w [(w.heap.size, .bool n0, .string s0, .int .i64 (e0)), (w.heap.size + 1, .bool n1, .string s1, .int .i64 (e1))] (.bool nd, .string T, .int .i64 X) (.bool ne, .string T, .int .i64 X))
    case first =>
      go_region_held3 (fun w' => ((w'.cell? ⟨w.heap.size, 0, none⟩ = some (.bool n0) ∧ w'.cell? ⟨w.heap.size, 1, none⟩ = some (.string s0) ∧ w'.cell? ⟨w.heap.size, 2, none⟩ = some (.int .i64 (e0))) ∧ (w'.cell? ⟨w.heap.size + 1, 0, none⟩ = some (.bool n1) ∧ w'.cell? ⟨w.heap.size + 1, 1, none⟩ = some (.string s1) ∧ w'.cell? ⟨w.heap.size + 1, 2, none⟩ = some (.int .i64 (e1))) ∧ True) ∧ Hid (Kept3 w [(w.heap.size, .bool n0, .string s0, .int .i64 (e0)), (w.heap.size + 1, .bool n1, .string s1, .int .i64 (e1))] w')) (exact Sd.keepB (B := w.heap.size + 2) (w0 := w) (L := [(w.heap.size, .bool n0, .string s0, .int .i64 (e0)), (w.heap.size + 1, .bool n1, .string s1, .int .i64 (e1))]) hS (by (repeat' (first | with_reducible refine Below.drew ?_ | with_reducible refine Below.setCell ?_ ?_ _ | with_reducible refine Below.alloc ?_ ?_ _ | exact Below.refl _ _)) <;> first | omega | ((try dsimp only); (try simp only [World.size_alloc, World.size_setCell]); omega)) (by intro u hu; simp at hu; rcases hu with rfl | rfl <;> (dsimp only; omega)) (by omega) (by omega))
        (first
        | (go_at_call 12; refine (sub_is (by first | exact HI1.out | exact HI2.out) (Sd.pw (Sd.keepB (B := w.heap.size + 2) (w0 := w) (L := [(w.heap.size, .bool n0, .string s0, .int .i64 (e0)), (w.heap.size + 1, .bool n1, .string s1, .int .i64 (e1))]) hS (by (repeat' (first | with_reducible refine Below.drew ?_ | with_reducible refine Below.setCell ?_ ?_ _ | with_reducible refine Below.alloc ?_ ?_ _ | exact Below.refl _ _)) <;> first | omega | ((try dsimp only); (try simp only [World.size_alloc]); omega)) (by intro u hu; simp at hu; rcases hu with rfl | rfl <;> (dsimp only; omega)) (by omega) (by omega)))).mono ?_; rintro r w1 ⟨rfl, hb⟩; have hS := Sd.keep (Sd.keepB (B := w.heap.size + 2) (w0 := w) (L := [(w.heap.size, .bool n0, .string s0, .int .i64 (e0)), (w.heap.size + 1, .bool n1, .string s1, .int .i64 (e1))]) hS (by (repeat' (first | with_reducible refine Below.drew ?_ | with_reducible refine Below.setCell ?_ ?_ _ | with_reducible refine Below.alloc ?_ ?_ _ | exact Below.refl _ _)) <;> first | omega | ((try dsimp only); (try simp only [World.size_alloc]); omega)) (by intro u hu; simp at hu; rcases hu with rfl | rfl <;> (dsimp only; omega)) (by omega) (by omega)) hb; have hz := hb.size; (try simp only [World.size_alloc, World.size_drew] at hz); (first | (have BX2 := Lib.hid (BX.out.keep hb); have BY2 := Lib.hid (BY.out.keep hb); clear BX BY; have BX := BX2; have BY := BY2; clear BX2 BY2) | (have BX2 := Lib.hid ((BX.out.alloc _).keep hb); have BY := Lib.hid ((Box3.new _ _ _ _ _).keep hb); clear BX; have BX := BX2; clear BX2) | (have BX2 := Lib.hid (BX.out.keep hb); clear BX; have BX := BX2; clear BX2) | (have BX := Lib.hid (((Box3.new _ _ _ _ _).alloc _).keep hb); have BY := Lib.hid ((Box3.new _ _ _ _ _).keep hb)) | (have BX := Lib.hid (((Box3.new _ _ _ _ _).alloc _).drew.keep hb); have BY := Lib.hid ((Box3.new _ _ _ _ _).drew.keep hb)) | (have BX := Lib.hid ((Box3.new _ _ _ _ _).keep hb)) | (have BX := Lib.hid ((Box3.new _ _ _ _ _).drew.keep hb)) | skip); (try obtain ⟨x0, x1, x2, xf0, xf1, xf2, xz⟩ := BX.out); (try obtain ⟨y0, y1, y2, yf0, yf1, yf2, yz⟩ := BY.out); (try simp only [World.size_alloc, World.size_drew] at x0 x1 x2 xf0 xf1 xf2 xz); (try simp only [World.size_alloc] at y0 y1 y2 yf0 yf1 yf2 yz); (try have xn := Nat.ne_of_lt xz); (try have xn2 := Nat.ne_of_gt xz); (try have yn := Nat.ne_of_lt yz); (try have yn2 := Nat.ne_of_gt yz); clear hb))
      all_goals
        go_wp2_with fail
        go_meet
        exact sgMid_of (Sd.keepB (B := w.heap.size + 2) (w0 := w) (L := [(w.heap.size, .bool n0, .string s0, .int .i64 (e0)), (w.heap.size + 1, .bool n1, .string s1, .int .i64 (e1))]) hS (by (repeat' (first | with_reducible refine Below.drew ?_ | with_reducible refine Below.setCell ?_ ?_ _ | with_reducible refine Below.alloc ?_ ?_ _ | exact Below.refl _ _)) <;> first | omega | ((try dsimp only); (try simp only [World.size_alloc, World.size_setCell]); omega)) (by intro u hu; simp at hu; rcases hu with rfl | rfl <;> (dsimp only; omega)) (by omega) (by omega)) (by refine ⟨?_, ?_, ?_, ?_, ?_, ?_, ?_⟩ <;> first | go_simp | ((try simp only [World.size_alloc, World.size_setCell]); omega)) (by refine ⟨?_, ?_, ?_, ?_, ?_, ?_, ?_⟩ <;> first | go_simp | ((try simp only [World.size_alloc, World.size_setCell]); omega)) (by omega) (by omega) (by omega)
    case rest =>
      obtain ⟨gx, gy, rfl, rfl, hne, hg1, hg2, hk⟩ := hcut
      have HK2 := Lib.hid (show Kept3 w [(w.heap.size, .bool n0, .string s0, .int .i64 (e0)), (w.heap.size + 1, .bool n1, .string s1, .int .i64 (e1)), (gx, .bool nd, .string T, .int .i64 (X)), (gy, .bool ne, .string T, .int .i64 (X))] _ from hk)
      clear HK hS hk
      have HK := Lib.hid HK2.out
      clear HK2 hz0 hz1
      obtain ⟨⟨⟨c00, c01, c02⟩, ⟨c10, c11, c12⟩, ⟨c20, c21, c22⟩, ⟨c30, c31, c32⟩, -⟩, -⟩ := Sd.of HK.out
      go_wp2_with fail
      refine (HS.out.mul _ HK.out.1).mono ?_
      rintro r w2 ⟨rfl, hb⟩
      clear c00 c01 c02 c10 c11 c12 c20 c21 c22 c30 c31 c32
      have hk := HK.out.keep hb
      replace HK := Lib.hid hk
      clear hk hb
      obtain ⟨⟨⟨c00, c01, c02⟩, ⟨c10, c11, c12⟩, ⟨c20, c21, c22⟩, ⟨c30, c31, c32⟩, -⟩, -⟩ := Sd.of HK.out
      clear c00 c01 c02 c10 c11 c12 c20 c21 c22 c30 c31 c32
      have HK2 := Lib.hid (show Kept3 w [(w.heap.size, .bool n0, .string s0, .int .i64 (e0)), (w.heap.size + 1, .bool n1, .string s1, .int .i64 (e1)), (gx, .bool nd, .string T, .int .i64 (X)), (gy, .bool ne, .string T, .int .i64 (X)), (w2.heap.size, .bool np, .string U, .int .i64 (Y))] _ from HK.out.grow (.bool np) (.string U) (.int .i64 Y) 23)
      clear HK
      have HK := Lib.hid HK2.out
      clear HK2
      rcases HS.out.d with hd | hd
      · rcases HS.out.p with hp | hp
        · obtain ⟨hT, rfl, rfl⟩ := hd
          have hU := hp
          go_wp2_with fail
          refine wp_region_held_drew (S := (fun w' => ((w'.cell? ⟨w.heap.size, 0, none⟩ = some (.bool n0) ∧ w'.cell? ⟨w.heap.size, 1, none⟩ = some (.string s0) ∧ w'.cell? ⟨w.heap.size, 2, none⟩ = some (.int .i64 (e0))) ∧ (w'.cell? ⟨w.heap.size + 1, 0, none⟩ = some (.bool n1) ∧ w'.cell? ⟨w.heap.size + 1, 1, none⟩ = some (.string s1) ∧ w'.cell? ⟨w.heap.size + 1, 2, none⟩ = some (.int .i64 (e1))) ∧ (w'.cell? ⟨gx, 0, none⟩ = some (.bool false) ∧ w'.cell? ⟨gx, 1, none⟩ = some (.string T) ∧ w'.cell? ⟨gx, 2, none⟩ = some (.int .i64 (X))) ∧ (w'.cell? ⟨gy, 0, none⟩ = some (.bool false) ∧ w'.cell? ⟨gy, 1, none⟩ = some (.string T) ∧ w'.cell? ⟨gy, 2, none⟩ = some (.int .i64 (X))) ∧ (w'.cell? ⟨w2.heap.size, 0, none⟩ = some (.bool np) ∧ w'.cell? ⟨w2.heap.size, 1, none⟩ = some (.string U) ∧ w'.cell? ⟨w2.heap.size, 2, none⟩ = some (.int .i64 (Y))) ∧ True) ∧ Hid (Kept3 w [(w.heap.size, .bool n0, .string s0, .int .i64 (e0)), (w.heap.size + 1, .bool n1, .string s1, .int .i64 (e1)), (gx, .bool false, .string T, .int .i64 (X)), (gy, .bool false, .string T, .int .i64 (X)), (w2.heap.size, .bool np, .string U, .int .i64 (Y))] w'))) (by kernel_rfl) (Sd.of HK.out.drew) (fun hHeld => ?_)
          refine step_at 0 (by kernel_rfl) rfl rfl (fun K hK => ?_)
          go_simp
          refine (answers06_c _ (Sd.pw (w0 := w) (L := [(w.heap.size, .bool n0, .string s0, .int .i64 (e0)), (w.heap.size + 1, .bool n1, .string s1, .int .i64 (e1)), (gx, .bool false, .string T, .int .i64 (X)), (gy, .bool false, .string T, .int .i64 (X)), (w2.heap.size, .bool np, .string U, .int .i64 (Y))]) hHeld)).mono ?_
          rintro r w1 ⟨rfl, hb⟩
          have hS := Sd.keep (w0 := w) (L := [(w.heap.size, .bool n0, .string s0, .int .i64 (e0)), (w.heap.size + 1, .bool n1, .string s1, .int .i64 (e1)), (gx, .bool false, .string T, .int .i64 (X)), (gy, .bool false, .string T, .int .i64 (X)), (w2.heap.size, .bool np, .string U, .int .i64 (Y))]) hHeld hb
          clear hHeld
          skip
          clear hb
          go_wp2_with fail
          refine hK.out _ _ hS (fun hHeld => ?_)
          clear hK K hS
          try simp only [Act.put, List.setIfInBounds_toArray, List.set_cons_zero, List.set_cons_succ]
          refine' take_at 1 (v := _) rfl (by kernel_rfl) (by kernel_rfl) (by kernel_rfl) (fun _ _ _ h => h) rfl ?y1 hHeld ?r1
          case y1 =>
            intro w hSw
            try dsimp only at hSw
            go_simp
            try with_reducible rfl
          try simp only [Act.put, List.setIfInBounds_toArray, List.set_cons_zero, List.set_cons_succ]
          refine' take_at 2 (v := _) rfl (by kernel_rfl) (by kernel_rfl) (by kernel_rfl) (fun _ _ _ h => h) rfl ?y2 hHeld ?r2
          case y2 =>
            intro w hSw
            try dsimp only at hSw
            go_simp
            try with_reducible rfl
          try simp only [Act.put, List.setIfInBounds_toArray, List.set_cons_zero, List.set_cons_succ]
          refine' take_at 5 (v := _) rfl (by kernel_rfl) (by kernel_rfl) (by kernel_rfl) (fun _ _ _ h => h) rfl ?y3 hHeld ?r3
          case y3 =>
            intro w hSw
            try dsimp only at hSw
            go_simp
            try with_reducible rfl
          try simp only [Act.put, List.setIfInBounds_toArray, List.set_cons_zero, List.set_cons_succ]
          refine step_at 3 (by kernel_rfl) rfl rfl (fun K hK => ?_)
          go_simp
          refine (HS.out.neg1 _ (Sd.pw (w0 := w) (L := [(w.heap.size, .bool n0, .string s0, .int .i64 (e0)), (w.heap.size + 1, .bool n1, .string s1, .int .i64 (e1)), (gx, .bool false, .string T, .int .i64 (X)), (gy, .bool false, .string T, .int .i64 (X)), (w2.heap.size, .bool np, .string U, .int .i64 (Y))]) hHeld)).mono ?_
          rintro r w1 ⟨rfl, hb⟩
          have hS := Sd.keep (w0 := w) (L := [(w.heap.size, .bool n0, .string s0, .int .i64 (e0)), (w.heap.size + 1, .bool n1, .string s1, .int .i64 (e1)), (gx, .bool false, .string T, .int .i64 (X)), (gy, .bool false, .string T, .int .i64 (X)), (w2.heap.size, .bool np, .string U, .int .i64 (Y))]) hHeld hb
          clear hHeld
          skip
          clear hb
          go_wp2_with fail
          refine hK.out _ _ hS (fun hHeld => ?_)
          clear hK K hS
          try simp only [Act.put, List.setIfInBounds_toArray, List.set_cons_zero, List.set_cons_succ]
          refine step_at 4 (by kernel_rfl) rfl rfl (fun K hK => ?_)
          go_simp
          refine (HS.out.neg2 _ (Sd.pw (w0 := w) (L := [(w.heap.size, .bool n0, .string s0, .int .i64 (e0)), (w.heap.size + 1, .bool n1, .string s1, .int .i64 (e1)), (gx, .bool false, .string T, .int .i64 (X)), (gy, .bool false, .string T, .int .i64 (X)), (w2.heap.size, .bool np, .string U, .int .i64 (Y))]) hHeld)).mono ?_
          rintro r w1 ⟨rfl, hb⟩
          have hS := Sd.keep (w0 := w) (L := [(w.heap.size, .bool n0, .string s0, .int .i64 (e0)), (w.heap.size + 1, .bool n1, .string s1, .int .i64 (e1)), (gx, .bool false, .string T, .int .i64 (X)), (gy, .bool false, .string T, .int .i64 (X)), (w2.heap.size, .bool np, .string U, .int .i64 (Y))]) hHeld hb
          clear hHeld
          skip
          clear hb
          go_wp2_with fail
          refine hK.out _ _ hS (fun hHeld => ?_)
          clear hK K hS
          try simp only [Act.put, List.setIfInBounds_toArray, List.set_cons_zero, List.set_cons_succ]
          refine step_at 6 (by kernel_rfl) rfl rfl (fun K hK => ?_)
          go_simp
          refine (HS.out.norm _ (Sd.pw (w0 := w) (L := [(w.heap.size, .bool n0, .string s0, .int .i64 (e0)), (w.heap.size + 1, .bool n1, .string s1, .int .i64 (e1)), (gx, .bool false, .string T, .int .i64 (X)), (gy, .bool false, .string T, .int .i64 (X)), (w2.heap.size, .bool np, .string U, .int .i64 (Y))]) hHeld)).mono ?_
          rintro r w1 ⟨rfl, hb⟩
          have hS := Sd.keep (w0 := w) (L := [(w.heap.size, .bool n0, .string s0, .int .i64 (e0)), (w.heap.size + 1, .bool n1, .string s1, .int .i64 (e1)), (gx, .bool false, .string T, .int .i64 (X)), (gy, .bool false, .string T, .int .i64 (X)), (w2.heap.size, .bool np, .string U, .int .i64 (Y))]) hHeld hb
          clear hHeld
          skip
          clear hb
          go_wp2_with fail
          refine hK.out _ _ hS (fun hHeld => ?_)
          clear hK K hS
          try simp only [Act.put, List.setIfInBounds_toArray, List.set_cons_zero, List.set_cons_succ]
          refine' take_at 7 (v := _) rfl (by kernel_rfl) (by kernel_rfl) (by kernel_rfl) (fun _ _ _ h => h) rfl ?y4 hHeld ?r4
          case y4 =>
            intro w hSw
            try dsimp only at hSw
            go_simp
            try with_reducible rfl
          try simp only [Act.put, List.setIfInBounds_toArray, List.set_cons_zero, List.set_cons_succ]
          refine' take_at 8 (v := _) rfl (by kernel_rfl) (by kernel_rfl) (by kernel_rfl) (fun _ _ _ h => h) rfl ?y5 hHeld ?r5
          case y5 =>
            intro w hSw
            try dsimp only at hSw
            go_simp
            try with_reducible rfl
          try simp only [Act.put, List.setIfInBounds_toArray, List.set_cons_zero, List.set_cons_succ]
          refine' take_at 9 (v := _) rfl (by kernel_rfl) (by kernel_rfl) (by kernel_rfl) (fun _ _ _ h => h) rfl ?y6 hHeld ?r6
          case y6 =>
            intro w hSw
            try dsimp only at hSw
            go_simp
            try with_reducible rfl
          try simp only [Act.put, List.setIfInBounds_toArray, List.set_cons_zero, List.set_cons_succ]
          refine' take_at 10 (v := _) rfl (by kernel_rfl) (by kernel_rfl) (by kernel_rfl) (fun _ _ _ h => h) rfl ?y7 hHeld ?r7
          case y7 =>
            intro w hSw
            try dsimp only at hSw
            go_simp
            try with_reducible rfl
          try simp only [Act.put, List.setIfInBounds_toArray, List.set_cons_zero, List.set_cons_succ]
          refine' take_at 11 (v := _) rfl (by kernel_rfl) (by kernel_rfl) (by kernel_rfl) (fun _ _ _ h => h) rfl ?y8 hHeld ?r8
          case y8 =>
            intro w hSw
            try dsimp only at hSw
            go_simp
            try with_reducible rfl
          try simp only [Act.put, List.setIfInBounds_toArray, List.set_cons_zero, List.set_cons_succ]
          refine' take_at 12 (v := _) rfl (by kernel_rfl) (by kernel_rfl) (by kernel_rfl) (fun _ _ _ h => h) rfl ?y9 hHeld ?r9
          case y9 =>
            intro w hSw
            try dsimp only at hSw
            go_simp
            try with_reducible rfl
          try simp only [Act.put, List.setIfInBounds_toArray, List.set_cons_zero, List.set_cons_succ]
          refine' take_at 13 (v := _) rfl (by kernel_rfl) (by kernel_rfl) (by kernel_rfl) (fun _ _ _ h => h) rfl ?y10 hHeld ?r10
          case y10 =>
            intro w hSw
            try dsimp only at hSw
            go_simp
            try with_reducible rfl
          try simp only [Act.put, List.setIfInBounds_toArray, List.set_cons_zero, List.set_cons_succ]
          refine' take_at 14 (v := _) rfl (by kernel_rfl) (by kernel_rfl) (by kernel_rfl) (fun _ _ _ h => h) rfl ?y11 hHeld ?r11
          case y11 =>
            intro w hSw
            try dsimp only at hSw
            go_simp
            try with_reducible rfl
          try simp only [Act.put, List.setIfInBounds_toArray, List.set_cons_zero, List.set_cons_succ]
          refine' take_at 15 (v := _) rfl (by kernel_rfl) (by kernel_rfl) (by kernel_rfl) (fun _ _ _ h => h) rfl ?y12 hHeld ?r12
          case y12 =>
            intro w hSw
            try dsimp only at hSw
            go_simp
            try with_reducible rfl
          try simp only [Act.put, List.setIfInBounds_toArray, List.set_cons_zero, List.set_cons_succ]
          refine' take_at 16 (v := _) rfl (by kernel_rfl) (by kernel_rfl) (by kernel_rfl) (fun _ _ _ h => h) rfl ?y13 hHeld ?r13
          case y13 =>
            intro w hSw
            try dsimp only at hSw
            go_simp
            try with_reducible rfl
          try simp only [Act.put, List.setIfInBounds_toArray, List.set_cons_zero, List.set_cons_succ]
          refine' take_at 17 (v := _) rfl (by kernel_rfl) (by kernel_rfl) (by kernel_rfl) (fun _ _ _ h => h) rfl ?y14 hHeld ?r14
          case y14 =>
            intro w hSw
            try dsimp only at hSw
            go_simp
            try with_reducible rfl
          try simp only [Act.put, List.setIfInBounds_toArray, List.set_cons_zero, List.set_cons_succ]
          refine' take_at 18 (v := _) rfl (by kernel_rfl) (by kernel_rfl) (by kernel_rfl) (fun _ _ _ h => h) rfl ?y15 hHeld ?r15
          case y15 =>
            intro w hSw
            try dsimp only at hSw
            go_simp
            try with_reducible rfl
          try simp only [Act.put, List.setIfInBounds_toArray, List.set_cons_zero, List.set_cons_succ]
          refine skip_at 19 rfl (by kernel_rfl) (by kernel_rfl) (by kernel_rfl) (fun _ _ _ h => h) rfl hHeld ?_
          try simp only [Act.put, List.setIfInBounds_toArray, List.set_cons_zero, List.set_cons_succ]
          refine skip_at 20 rfl (by kernel_rfl) (by kernel_rfl) (by kernel_rfl) (fun _ _ _ h => h) rfl hHeld ?_
          try simp only [Act.put, List.setIfInBounds_toArray, List.set_cons_zero, List.set_cons_succ]
          refine skip_at 21 rfl (by kernel_rfl) (by kernel_rfl) (by kernel_rfl) (fun _ _ _ h => h) rfl hHeld ?_
          try simp only [Act.put, List.setIfInBounds_toArray, List.set_cons_zero, List.set_cons_succ]
          refine skip_at 22 rfl (by kernel_rfl) (by kernel_rfl) (by kernel_rfl) (fun _ _ _ h => h) rfl hHeld ?_
          try simp only [Act.put, List.setIfInBounds_toArray, List.set_cons_zero, List.set_cons_succ]
          refine' take_at 23 (v := _) rfl (by kernel_rfl) (by kernel_rfl) (by kernel_rfl) (fun _ _ _ h => h) rfl ?y20 hHeld ?r20
          case y20 =>
            intro w hSw
            try dsimp only at hSw
            go_simp
            try with_reducible rfl
          try simp only [Act.put, List.setIfInBounds_toArray, List.set_cons_zero, List.set_cons_succ]
          refine' take_at 24 (v := _) rfl (by kernel_rfl) (by kernel_rfl) (by kernel_rfl) (fun _ _ _ h => h) rfl ?y21 hHeld ?r21
          case y21 =>
            intro w hSw
            try dsimp only at hSw
            go_simp
            try with_reducible rfl
          try simp only [Act.put, List.setIfInBounds_toArray, List.set_cons_zero, List.set_cons_succ]
          refine' take_at 25 (v := _) rfl (by kernel_rfl) (by kernel_rfl) (by kernel_rfl) (fun _ _ _ h => h) rfl ?y22 hHeld ?r22
          case y22 =>
            intro w hSw
            try dsimp only at hSw
            go_simp
            try with_reducible rfl
          try simp only [Act.put, List.setIfInBounds_toArray, List.set_cons_zero, List.set_cons_succ]
          refine' take_at 26 (v := _) rfl (by kernel_rfl) (by kernel_rfl) (by kernel_rfl) (fun _ _ _ h => h) rfl ?y23 hHeld ?r23
          case y23 =>
            intro w hSw
            try dsimp only at hSw
            go_simp
            try with_reducible rfl
          try simp only [Act.put, List.setIfInBounds_toArray, List.set_cons_zero, List.set_cons_succ]
          refine' take_at 28 (v := _) rfl (by kernel_rfl) (by kernel_rfl) (by kernel_rfl) (fun _ _ _ h => h) rfl ?y24 hHeld ?r24
          case y24 =>
            intro w hSw
            try dsimp only at hSw
            go_simp
            try with_reducible rfl
          try simp only [Act.put, List.setIfInBounds_toArray, List.set_cons_zero, List.set_cons_succ]
          refine step_at 27 (by kernel_rfl) rfl rfl (fun K hK => ?_)
          go_simp
          refine (HS.out.absD _ (Sd.pw (w0 := w) (L := [(w.heap.size, .bool n0, .string s0, .int .i64 (e0)), (w.heap.size + 1, .bool n1, .string s1, .int .i64 (e1)), (gx, .bool false, .string T, .int .i64 (X)), (gy, .bool false, .string T, .int .i64 (X)), (w2.heap.size, .bool np, .string U, .int .i64 (Y))]) hHeld)).mono ?_
          rintro r w1 ⟨rfl, hb⟩
          have hS := Sd.keep (w0 := w) (L := [(w.heap.size, .bool n0, .string s0, .int .i64 (e0)), (w.heap.size + 1, .bool n1, .string s1, .int .i64 (e1)), (gx, .bool false, .string T, .int .i64 (X)), (gy, .bool false, .string T, .int .i64 (X)), (w2.heap.size, .bool np, .string U, .int .i64 (Y))]) hHeld hb
          clear hHeld
          skip
          clear hb
          go_wp2_with fail
          refine hK.out _ _ hS (fun hHeld => ?_)
          clear hK K hS
          try simp only [Act.put, List.setIfInBounds_toArray, List.set_cons_zero, List.set_cons_succ]
          refine step_at 29 (by kernel_rfl) rfl rfl (fun K hK => ?_)
          go_simp
          refine (HS.out.absE _ (Sd.pw (w0 := w) (L := [(w.heap.size, .bool n0, .string s0, .int .i64 (e0)), (w.heap.size + 1, .bool n1, .string s1, .int .i64 (e1)), (gx, .bool false, .string T, .int .i64 (X)), (gy, .bool false, .string T, .int .i64 (X)), (w2.heap.size, .bool np, .string U, .int .i64 (Y))]) hHeld)).mono ?_
          rintro r w1 ⟨rfl, hb⟩
          have hS := Sd.keep (w0 := w) (L := [(w.heap.size, .bool n0, .string s0, .int .i64 (e0)), (w.heap.size + 1, .bool n1, .string s1, .int .i64 (e1)), (gx, .bool false, .string T, .int .i64 (X)), (gy, .bool false, .string T, .int .i64 (X)), (w2.heap.size, .bool np, .string U, .int .i64 (Y))]) hHeld hb
          clear hHeld
          skip
          clear hb
          go_wp2_with fail
          refine hK.out _ _ hS (fun hHeld => ?_)
          clear hK K hS
          try simp only [Act.put, List.setIfInBounds_toArray, List.set_cons_zero, List.set_cons_succ]
          refine' take_at 30 (v := _) rfl (by kernel_rfl) (by kernel_rfl) (by kernel_rfl) (fun _ _ _ h => h) rfl ?y25 hHeld ?r25
          case y25 =>
            intro w hSw
            try dsimp only at hSw
            go_simp
            try with_reducible rfl
          try simp only [Act.put, List.setIfInBounds_toArray, List.set_cons_zero, List.set_cons_succ]
          refine' take_at 31 (v := _) rfl (by kernel_rfl) (by kernel_rfl) (by kernel_rfl) (fun _ _ _ h => h) rfl ?y26 hHeld ?r26
          case y26 =>
            intro w hSw
            try dsimp only at hSw
            go_simp
            try with_reducible rfl
          try simp only [Act.put, List.setIfInBounds_toArray, List.set_cons_zero, List.set_cons_succ]
          refine' take_at 32 (v := _) rfl (by kernel_rfl) (by kernel_rfl) (by kernel_rfl) (fun _ _ _ h => h) rfl ?y27 hHeld ?r27
          case y27 =>
            intro w hSw
            try dsimp only at hSw
            go_simp
            try with_reducible rfl
          try simp only [Act.put, List.setIfInBounds_toArray, List.set_cons_zero, List.set_cons_succ]
          refine' take_at 33 (v := _) rfl (by kernel_rfl) (by kernel_rfl) (by kernel_rfl) (fun _ _ _ h => h) rfl ?y28 hHeld ?r28
          case y28 =>
            intro w hSw
            try dsimp only at hSw
            go_simp
            try with_reducible rfl
          try simp only [Act.put, List.setIfInBounds_toArray, List.set_cons_zero, List.set_cons_succ]
          refine' take_at 34 (v := _) rfl (by kernel_rfl) (by kernel_rfl) (by kernel_rfl) (fun _ _ _ h => h) rfl ?y29 hHeld ?r29
          case y29 =>
            intro w hSw
            try dsimp only at hSw
            go_simp
            try with_reducible rfl
          try simp only [Act.put, List.setIfInBounds_toArray, List.set_cons_zero, List.set_cons_succ]
          refine' take_at 35 (v := _) rfl (by kernel_rfl) (by kernel_rfl) (by kernel_rfl) (fun _ _ _ h => h) rfl ?y30 hHeld ?r30
          case y30 =>
            intro w hSw
            try dsimp only at hSw
            go_simp
            try with_reducible rfl
          try simp only [Act.put, List.setIfInBounds_toArray, List.set_cons_zero, List.set_cons_succ]
          refine' take_at 36 (v := _) rfl (by kernel_rfl) (by kernel_rfl) (by kernel_rfl) (fun _ _ _ h => h) rfl ?y31 hHeld ?r31
          case y31 =>
            intro w hSw
            try dsimp only at hSw
            go_simp
            try with_reducible rfl
          try simp only [Act.put, List.setIfInBounds_toArray, List.set_cons_zero, List.set_cons_succ]
          refine skip_at 37 rfl (by kernel_rfl) (by kernel_rfl) (by kernel_rfl) (fun _ _ _ h => h) rfl hHeld ?_
          try simp only [Act.put, List.setIfInBounds_toArray, List.set_cons_zero, List.set_cons_succ]
          refine skip_at 38 rfl (by kernel_rfl) (by kernel_rfl) (by kernel_rfl) (fun _ _ _ h => h) rfl hHeld ?_
          try simp only [Act.put, List.setIfInBounds_toArray, List.set_cons_zero, List.set_cons_succ]
          refine skip_at 39 rfl (by kernel_rfl) (by kernel_rfl) (by kernel_rfl) (fun _ _ _ h => h) rfl hHeld ?_
          try simp only [Act.put, List.setIfInBounds_toArray, List.set_cons_zero, List.set_cons_succ]
          refine skip_at 40 rfl (by kernel_rfl) (by kernel_rfl) (by kernel_rfl) (fun _ _ _ h => h) rfl hHeld ?_
          try simp only [Act.put, List.setIfInBounds_toArray, List.set_cons_zero, List.set_cons_succ]
          refine skip_at 41 rfl (by kernel_rfl) (by kernel_rfl) (by kernel_rfl) (fun _ _ _ h => h) rfl hHeld ?_
          try simp only [Act.put, List.setIfInBounds_toArray, List.set_cons_zero, List.set_cons_succ]
          refine skip_at 42 rfl (by kernel_rfl) (by kernel_rfl) (by kernel_rfl) (fun _ _ _ h => h) rfl hHeld ?_
          try simp only [Act.put, List.setIfInBounds_toArray, List.set_cons_zero, List.set_cons_succ]
          refine skip_at 43 rfl (by kernel_rfl) (by kernel_rfl) (by kernel_rfl) (fun _ _ _ h => h) rfl hHeld ?_
          try simp only [Act.put, List.setIfInBounds_toArray, List.set_cons_zero, List.set_cons_succ]
          refine skip_at 44 rfl (by kernel_rfl) (by kernel_rfl) (by kernel_rfl) (fun _ _ _ h => h) rfl hHeld ?_
          try simp only [Act.put, List.setIfInBounds_toArray, List.set_cons_zero, List.set_cons_succ]
          refine' take_at 45 (v := _) rfl (by kernel_rfl) (by kernel_rfl) (by kernel_rfl) (fun _ _ _ h => h) rfl ?y40 hHeld ?r40
          case y40 =>
            intro w hSw
            try dsimp only at hSw
            go_simp
            try with_reducible rfl
          try simp only [Act.put, List.setIfInBounds_toArray, List.set_cons_zero, List.set_cons_succ]
          refine' take_at 46 (v := _) rfl (by kernel_rfl) (by kernel_rfl) (by kernel_rfl) (fun _ _ _ h => h) rfl ?y41 hHeld ?r41
          case y41 =>
            intro w hSw
            try dsimp only at hSw
            go_simp
            try with_reducible rfl
          try simp only [Act.put, List.setIfInBounds_toArray, List.set_cons_zero, List.set_cons_succ]
          refine' take_at 47 (v := _) rfl (by kernel_rfl) (by kernel_rfl) (by kernel_rfl) (fun _ _ _ h => h) rfl ?y42 hHeld ?r42
          case y42 =>
            intro w hSw
            try dsimp only at hSw
            go_simp
            try with_reducible rfl
          try simp only [Act.put, List.setIfInBounds_toArray, List.set_cons_zero, List.set_cons_succ]
          refine' take_at 48 (v := _) rfl (by kernel_rfl) (by kernel_rfl) (by kernel_rfl) (fun _ _ _ h => h) rfl ?y43 hHeld ?r43
          case y43 =>
            intro w hSw
            try dsimp only at hSw
            go_simp
            try with_reducible rfl
          try simp only [Act.put, List.setIfInBounds_toArray, List.set_cons_zero, List.set_cons_succ]
          refine' take_at 50 (v := _) rfl (by kernel_rfl) (by kernel_rfl) (by kernel_rfl) (fun _ _ _ h => h) rfl ?y44 hHeld ?r44
          case y44 =>
            intro w hSw
            try dsimp only at hSw
            go_simp
            try with_reducible rfl
          try simp only [Act.put, List.setIfInBounds_toArray, List.set_cons_zero, List.set_cons_succ]
          refine' take_at 53 (v := _) rfl (by kernel_rfl) (by kernel_rfl) (by kernel_rfl) (fun _ _ _ h => h) rfl ?y45 hHeld ?r45
          case y45 =>
            intro w hSw
            try dsimp only at hSw
            go_simp
            try with_reducible rfl
          try simp only [Act.put, List.setIfInBounds_toArray, List.set_cons_zero, List.set_cons_succ]
          refine step_at 49 (by kernel_rfl) rfl rfl (fun K hK => ?_)
          go_simp
          refine (HS.out.abs0 _ (Sd.pw (w0 := w) (L := [(w.heap.size, .bool n0, .string s0, .int .i64 (e0)), (w.heap.size + 1, .bool n1, .string s1, .int .i64 (e1)), (gx, .bool false, .string T, .int .i64 (X)), (gy, .bool false, .string T, .int .i64 (X)), (w2.heap.size, .bool np, .string U, .int .i64 (Y))]) hHeld)).mono ?_
          rintro r w1 ⟨rfl, hb⟩
          have hS := Sd.keep (w0 := w) (L := [(w.heap.size, .bool n0, .string s0, .int .i64 (e0)), (w.heap.size + 1, .bool n1, .string s1, .int .i64 (e1)), (gx, .bool false, .string T, .int .i64 (X)), (gy, .bool false, .string T, .int .i64 (X)), (w2.heap.size, .bool np, .string U, .int .i64 (Y))]) hHeld hb
          clear hHeld
          skip
          clear hb
          go_wp2_with fail
          refine hK.out _ _ hS (fun hHeld => ?_)
          clear hK K hS
          try simp only [Act.put, List.setIfInBounds_toArray, List.set_cons_zero, List.set_cons_succ]
          refine step_at 51 (by kernel_rfl) rfl rfl (fun K hK => ?_)
          go_simp
          refine (HS.out.abs1 _ (Sd.pw (w0 := w) (L := [(w.heap.size, .bool n0, .string s0, .int .i64 (e0)), (w.heap.size + 1, .bool n1, .string s1, .int .i64 (e1)), (gx, .bool false, .string T, .int .i64 (X)), (gy, .bool false, .string T, .int .i64 (X)), (w2.heap.size, .bool np, .string U, .int .i64 (Y))]) hHeld)).mono ?_
          rintro r w1 ⟨rfl, hb⟩
          have hS := Sd.keep (w0 := w) (L := [(w.heap.size, .bool n0, .string s0, .int .i64 (e0)), (w.heap.size + 1, .bool n1, .string s1, .int .i64 (e1)), (gx, .bool false, .string T, .int .i64 (X)), (gy, .bool false, .string T, .int .i64 (X)), (w2.heap.size, .bool np, .string U, .int .i64 (Y))]) hHeld hb
          clear hHeld
          skip
          clear hb
          go_wp2_with fail
          refine hK.out _ _ hS (fun hHeld => ?_)
          clear hK K hS
          try simp only [Act.put, List.setIfInBounds_toArray, List.set_cons_zero, List.set_cons_succ]
          refine step_at 52 (by kernel_rfl) rfl rfl (fun K hK => ?_)
          go_simp
          refine (HS.out.mul2 _ (Sd.pw (w0 := w) (L := [(w.heap.size, .bool n0, .string s0, .int .i64 (e0)), (w.heap.size + 1, .bool n1, .string s1, .int .i64 (e1)), (gx, .bool false, .string T, .int .i64 (X)), (gy, .bool false, .string T, .int .i64 (X)), (w2.heap.size, .bool np, .string U, .int .i64 (Y))]) hHeld)).mono ?_
          rintro r w1 ⟨rfl, hb⟩
          have hS := Sd.keep (w0 := w) (L := [(w.heap.size, .bool n0, .string s0, .int .i64 (e0)), (w.heap.size + 1, .bool n1, .string s1, .int .i64 (e1)), (gx, .bool false, .string T, .int .i64 (X)), (gy, .bool false, .string T, .int .i64 (X)), (w2.heap.size, .bool np, .string U, .int .i64 (Y))]) hHeld hb
          clear hHeld
          skip
          clear hb
          go_wp2_with fail
          refine hK.out _ _ hS (fun hHeld => ?_)
          clear hK K hS
          try simp only [Act.put, List.setIfInBounds_toArray, List.set_cons_zero, List.set_cons_succ]
          refine step_at 54 (by kernel_rfl) rfl rfl (fun K hK => ?_)
          go_simp
          refine (HS.out.absP _ (Sd.pw (w0 := w) (L := [(w.heap.size, .bool n0, .string s0, .int .i64 (e0)), (w.heap.size + 1, .bool n1, .string s1, .int .i64 (e1)), (gx, .bool false, .string T, .int .i64 (X)), (gy, .bool false, .string T, .int .i64 (X)), (w2.heap.size, .bool np, .string U, .int .i64 (Y))]) hHeld)).mono ?_
          rintro r w1 ⟨rfl, hb⟩
          have hS := Sd.keep (w0 := w) (L := [(w.heap.size, .bool n0, .string s0, .int .i64 (e0)), (w.heap.size + 1, .bool n1, .string s1, .int .i64 (e1)), (gx, .bool false, .string T, .int .i64 (X)), (gy, .bool false, .string T, .int .i64 (X)), (w2.heap.size, .bool np, .string U, .int .i64 (Y))]) hHeld hb
          clear hHeld
          skip
          clear hb
          go_wp2_with fail
          refine hK.out _ _ hS (fun hHeld => ?_)
          clear hK K hS
          try simp only [Act.put, List.setIfInBounds_toArray, List.set_cons_zero, List.set_cons_succ]
          refine' take_at 55 (v := _) rfl (by kernel_rfl) (by kernel_rfl) (by kernel_rfl) (fun _ _ _ h => h) rfl ?y46 hHeld ?r46
          case y46 =>
            intro w hSw
            try dsimp only at hSw
            go_simp
            try with_reducible rfl
          try simp only [Act.put, List.setIfInBounds_toArray, List.set_cons_zero, List.set_cons_succ]
          refine' take_at 56 (v := _) rfl (by kernel_rfl) (by kernel_rfl) (by kernel_rfl) (fun _ _ _ h => h) rfl ?y47 hHeld ?r47
          case y47 =>
            intro w hSw
            try dsimp only at hSw
            go_simp
            try with_reducible rfl
          try simp only [Act.put, List.setIfInBounds_toArray, List.set_cons_zero, List.set_cons_succ]
          refine' take_at 57 (v := _) rfl (by kernel_rfl) (by kernel_rfl) (by kernel_rfl) (fun _ _ _ h => h) rfl ?y48 hHeld ?r48
          case y48 =>
            intro w hSw
            try dsimp only at hSw
            go_simp
            try with_reducible rfl
          try simp only [Act.put, List.setIfInBounds_toArray, List.set_cons_zero, List.set_cons_succ]
          refine wpAnyH_done (by kernel_rfl) ?_ _
          have HB := Lib.hid (Sd.bel (w0 := w) (L := [(w.heap.size, .bool n0, .string s0, .int .i64 (e0)), (w.heap.size + 1, .bool n1, .string s1, .int .i64 (e1)), (gx, .bool false, .string T, .int .i64 (X)), (gy, .bool false, .string T, .int .i64 (X)), (w2.heap.size, .bool np, .string U, .int .i64 (Y))]) hHeld)
          clear hHeld
          go_wp2
          go_ret
          exact ⟨rfl, HB.out⟩
        · obtain ⟨hT, rfl, rfl⟩ := hd
          obtain ⟨hU, hq0⟩ := hp
          have hq : (!(n0 == n1)) = np := hq0.symm
          clear hq0
          go_wp2_with fail
          refine wp_region_held_drew (S := (fun w' => ((w'.cell? ⟨w.heap.size, 0, none⟩ = some (.bool n0) ∧ w'.cell? ⟨w.heap.size, 1, none⟩ = some (.string s0) ∧ w'.cell? ⟨w.heap.size, 2, none⟩ = some (.int .i64 (e0))) ∧ (w'.cell? ⟨w.heap.size + 1, 0, none⟩ = some (.bool n1) ∧ w'.cell? ⟨w.heap.size + 1, 1, none⟩ = some (.string s1) ∧ w'.cell? ⟨w.heap.size + 1, 2, none⟩ = some (.int .i64 (e1))) ∧ (w'.cell? ⟨gx, 0, none⟩ = some (.bool false) ∧ w'.cell? ⟨gx, 1, none⟩ = some (.string T) ∧ w'.cell? ⟨gx, 2, none⟩ = some (.int .i64 (X))) ∧ (w'.cell? ⟨gy, 0, none⟩ = some (.bool false) ∧ w'.cell? ⟨gy, 1, none⟩ = some (.string T) ∧ w'.cell? ⟨gy, 2, none⟩ = some (.int .i64 (X))) ∧ (w'.cell? ⟨w2.heap.size, 0, none⟩ = some (.bool np) ∧ w'.cell? ⟨w2.heap.size, 1, none⟩ = some (.string U) ∧ w'.cell? ⟨w2.heap.size, 2, none⟩ = some (.int .i64 (Y))) ∧ True) ∧ Hid (Kept3 w [(w.heap.size, .bool n0, .string s0, .int .i64 (e0)), (w.heap.size + 1, .bool n1, .string s1, .int .i64 (e1)), (gx, .bool false, .string T, .int .i64 (X)), (gy, .bool false, .string T, .int .i64 (X)), (w2.heap.size, .bool np, .string U, .int .i64 (Y))] w'))) (by kernel_rfl) (Sd.of HK.out.drew) (fun hHeld => ?_)
          refine step_at 0 (by kernel_rfl) rfl rfl (fun K hK => ?_)
          go_simp
          refine (answers06_c _ (Sd.pw (w0 := w) (L := [(w.heap.size, .bool n0, .string s0, .int .i64 (e0)), (w.heap.size + 1, .bool n1, .string s1, .int .i64 (e1)), (gx, .bool false, .string T, .int .i64 (X)), (gy, .bool false, .string T, .int .i64 (X)), (w2.heap.size, .bool np, .string U, .int .i64 (Y))]) hHeld)).mono ?_
          rintro r w1 ⟨rfl, hb⟩
          have hS := Sd.keep (w0 := w) (L := [(w.heap.size, .bool n0, .string s0, .int .i64 (e0)), (w.heap.size + 1, .bool n1, .string s1, .int .i64 (e1)), (gx, .bool false, .string T, .int .i64 (X)), (gy, .bool false, .string T, .int .i64 (X)), (w2.heap.size, .bool np, .string U, .int .i64 (Y))]) hHeld hb
          clear hHeld
          skip
          clear hb
          go_wp2_with fail
          refine hK.out _ _ hS (fun hHeld => ?_)
          clear hK K hS
          try simp only [Act.put, List.setIfInBounds_toArray, List.set_cons_zero, List.set_cons_succ]
          refine' take_at 1 (v := _) rfl (by kernel_rfl) (by kernel_rfl) (by kernel_rfl) (fun _ _ _ h => h) rfl ?y49 hHeld ?r49
          case y49 =>
            intro w hSw
            try dsimp only at hSw
            go_simp
            try with_reducible rfl
          try simp only [Act.put, List.setIfInBounds_toArray, List.set_cons_zero, List.set_cons_succ]
          refine' take_at 2 (v := _) rfl (by kernel_rfl) (by kernel_rfl) (by kernel_rfl) (fun _ _ _ h => h) rfl ?y50 hHeld ?r50
          case y50 =>
            intro w hSw
            try dsimp only at hSw
            go_simp
            try with_reducible rfl
          try simp only [Act.put, List.setIfInBounds_toArray, List.set_cons_zero, List.set_cons_succ]
          refine' take_at 5 (v := _) rfl (by kernel_rfl) (by kernel_rfl) (by kernel_rfl) (fun _ _ _ h => h) rfl ?y51 hHeld ?r51
          case y51 =>
            intro w hSw
            try dsimp only at hSw
            go_simp
            try with_reducible rfl
          try simp only [Act.put, List.setIfInBounds_toArray, List.set_cons_zero, List.set_cons_succ]
          refine step_at 3 (by kernel_rfl) rfl rfl (fun K hK => ?_)
          go_simp
          refine (HS.out.neg1 _ (Sd.pw (w0 := w) (L := [(w.heap.size, .bool n0, .string s0, .int .i64 (e0)), (w.heap.size + 1, .bool n1, .string s1, .int .i64 (e1)), (gx, .bool false, .string T, .int .i64 (X)), (gy, .bool false, .string T, .int .i64 (X)), (w2.heap.size, .bool np, .string U, .int .i64 (Y))]) hHeld)).mono ?_
          rintro r w1 ⟨rfl, hb⟩
          have hS := Sd.keep (w0 := w) (L := [(w.heap.size, .bool n0, .string s0, .int .i64 (e0)), (w.heap.size + 1, .bool n1, .string s1, .int .i64 (e1)), (gx, .bool false, .string T, .int .i64 (X)), (gy, .bool false, .string T, .int .i64 (X)), (w2.heap.size, .bool np, .string U, .int .i64 (Y))]) hHeld hb
          clear hHeld
          skip
          clear hb
          go_wp2_with fail
          refine hK.out _ _ hS (fun hHeld => ?_)
          clear hK K hS
          try simp only [Act.put, List.setIfInBounds_toArray, List.set_cons_zero, List.set_cons_succ]
          refine step_at 4 (by kernel_rfl) rfl rfl (fun K hK => ?_)
          go_simp
          refine (HS.out.neg2 _ (Sd.pw (w0 := w) (L := [(w.heap.size, .bool n0, .string s0, .int .i64 (e0)), (w.heap.size + 1, .bool n1, .string s1, .int .i64 (e1)), (gx, .bool false, .string T, .int .i64 (X)), (gy, .bool false, .string T, .int .i64 (X)), (w2.heap.size, .bool np, .string U, .int .i64 (Y))]) hHeld)).mono ?_
          rintro r w1 ⟨rfl, hb⟩
          have hS := Sd.keep (w0 := w) (L := [(w.heap.size, .bool n0, .string s0, .int .i64 (e0)), (w.heap.size + 1, .bool n1, .string s1, .int .i64 (e1)), (gx, .bool false, .string T, .int .i64 (X)), (gy, .bool false, .string T, .int .i64 (X)), (w2.heap.size, .bool np, .string U, .int .i64 (Y))]) hHeld hb
          clear hHeld
          skip
          clear hb
          go_wp2_with fail
          refine hK.out _ _ hS (fun hHeld => ?_)
          clear hK K hS
          try simp only [Act.put, List.setIfInBounds_toArray, List.set_cons_zero, List.set_cons_succ]
          refine step_at 6 (by kernel_rfl) rfl rfl (fun K hK => ?_)
          go_simp
          refine (HS.out.norm _ (Sd.pw (w0 := w) (L := [(w.heap.size, .bool n0, .string s0, .int .i64 (e0)), (w.heap.size + 1, .bool n1, .string s1, .int .i64 (e1)), (gx, .bool false, .string T, .int .i64 (X)), (gy, .bool false, .string T, .int .i64 (X)), (w2.heap.size, .bool np, .string U, .int .i64 (Y))]) hHeld)).mono ?_
          rintro r w1 ⟨rfl, hb⟩
          have hS := Sd.keep (w0 := w) (L := [(w.heap.size, .bool n0, .string s0, .int .i64 (e0)), (w.heap.size + 1, .bool n1, .string s1, .int .i64 (e1)), (gx, .bool false, .string T, .int .i64 (X)), (gy, .bool false, .string T, .int .i64 (X)), (w2.heap.size, .bool np, .string U, .int .i64 (Y))]) hHeld hb
          clear hHeld
          skip
          clear hb
          go_wp2_with fail
          refine hK.out _ _ hS (fun hHeld => ?_)
          clear hK K hS
          try simp only [Act.put, List.setIfInBounds_toArray, List.set_cons_zero, List.set_cons_succ]
          refine' take_at 7 (v := _) rfl (by kernel_rfl) (by kernel_rfl) (by kernel_rfl) (fun _ _ _ h => h) rfl ?y52 hHeld ?r52
          case y52 =>
            intro w hSw
            try dsimp only at hSw
            go_simp
            try with_reducible rfl
          try simp only [Act.put, List.setIfInBounds_toArray, List.set_cons_zero, List.set_cons_succ]
          refine' take_at 8 (v := _) rfl (by kernel_rfl) (by kernel_rfl) (by kernel_rfl) (fun _ _ _ h => h) rfl ?y53 hHeld ?r53
          case y53 =>
            intro w hSw
            try dsimp only at hSw
            go_simp
            try with_reducible rfl
          try simp only [Act.put, List.setIfInBounds_toArray, List.set_cons_zero, List.set_cons_succ]
          refine' take_at 9 (v := _) rfl (by kernel_rfl) (by kernel_rfl) (by kernel_rfl) (fun _ _ _ h => h) rfl ?y54 hHeld ?r54
          case y54 =>
            intro w hSw
            try dsimp only at hSw
            go_simp
            try with_reducible rfl
          try simp only [Act.put, List.setIfInBounds_toArray, List.set_cons_zero, List.set_cons_succ]
          refine' take_at 10 (v := _) rfl (by kernel_rfl) (by kernel_rfl) (by kernel_rfl) (fun _ _ _ h => h) rfl ?y55 hHeld ?r55
          case y55 =>
            intro w hSw
            try dsimp only at hSw
            go_simp
            try with_reducible rfl
          try simp only [Act.put, List.setIfInBounds_toArray, List.set_cons_zero, List.set_cons_succ]
          refine' take_at 11 (v := _) rfl (by kernel_rfl) (by kernel_rfl) (by kernel_rfl) (fun _ _ _ h => h) rfl ?y56 hHeld ?r56
          case y56 =>
            intro w hSw
            try dsimp only at hSw
            go_simp
            try with_reducible rfl
          try simp only [Act.put, List.setIfInBounds_toArray, List.set_cons_zero, List.set_cons_succ]
          refine' take_at 12 (v := _) rfl (by kernel_rfl) (by kernel_rfl) (by kernel_rfl) (fun _ _ _ h => h) rfl ?y57 hHeld ?r57
          case y57 =>
            intro w hSw
            try dsimp only at hSw
            go_simp
            try with_reducible rfl
          try simp only [Act.put, List.setIfInBounds_toArray, List.set_cons_zero, List.set_cons_succ]
          refine' take_at 13 (v := _) rfl (by kernel_rfl) (by kernel_rfl) (by kernel_rfl) (fun _ _ _ h => h) rfl ?y58 hHeld ?r58
          case y58 =>
            intro w hSw
            try dsimp only at hSw
            go_simp
            try with_reducible rfl
          try simp only [Act.put, List.setIfInBounds_toArray, List.set_cons_zero, List.set_cons_succ]
          refine' take_at 14 (v := _) rfl (by kernel_rfl) (by kernel_rfl) (by kernel_rfl) (fun _ _ _ h => h) rfl ?y59 hHeld ?r59
          case y59 =>
            intro w hSw
            try dsimp only at hSw
            go_simp
            try with_reducible rfl
          try simp only [Act.put, List.setIfInBounds_toArray, List.set_cons_zero, List.set_cons_succ]
          refine' take_at 15 (v := _) rfl (by kernel_rfl) (by kernel_rfl) (by kernel_rfl) (fun _ _ _ h => h) rfl ?y60 hHeld ?r60
          case y60 =>
            intro w hSw
            try dsimp only at hSw
            go_simp
            try with_reducible rfl
          try simp only [Act.put, List.setIfInBounds_toArray, List.set_cons_zero, List.set_cons_succ]
          refine' take_at 16 (v := _) rfl (by kernel_rfl) (by kernel_rfl) (by kernel_rfl) (fun _ _ _ h => h) rfl ?y61 hHeld ?r61
          case y61 =>
            intro w hSw
            try dsimp only at hSw
            go_simp
            try with_reducible rfl
          try simp only [Act.put, List.setIfInBounds_toArray, List.set_cons_zero, List.set_cons_succ]
          refine' take_at 17 (v := _) rfl (by kernel_rfl) (by kernel_rfl) (by kernel_rfl) (fun _ _ _ h => h) rfl ?y62 hHeld ?r62
          case y62 =>
            intro w hSw
            try dsimp only at hSw
            go_simp
            try with_reducible rfl
          try simp only [Act.put, List.setIfInBounds_toArray, List.set_cons_zero, List.set_cons_succ]
          refine' take_at 18 (v := _) rfl (by kernel_rfl) (by kernel_rfl) (by kernel_rfl) (fun _ _ _ h => h) rfl ?y63 hHeld ?r63
          case y63 =>
            intro w hSw
            try dsimp only at hSw
            go_simp
            try with_reducible rfl
          try simp only [Act.put, List.setIfInBounds_toArray, List.set_cons_zero, List.set_cons_succ]
          refine skip_at 19 rfl (by kernel_rfl) (by kernel_rfl) (by kernel_rfl) (fun _ _ _ h => h) rfl hHeld ?_
          try simp only [Act.put, List.setIfInBounds_toArray, List.set_cons_zero, List.set_cons_succ]
          refine skip_at 20 rfl (by kernel_rfl) (by kernel_rfl) (by kernel_rfl) (fun _ _ _ h => h) rfl hHeld ?_
          try simp only [Act.put, List.setIfInBounds_toArray, List.set_cons_zero, List.set_cons_succ]
          refine skip_at 21 rfl (by kernel_rfl) (by kernel_rfl) (by kernel_rfl) (fun _ _ _ h => h) rfl hHeld ?_
          try simp only [Act.put, List.setIfInBounds_toArray, List.set_cons_zero, List.set_cons_succ]
          refine skip_at 22 rfl (by kernel_rfl) (by kernel_rfl) (by kernel_rfl) (fun _ _ _ h => h) rfl hHeld ?_
          try simp only [Act.put, List.setIfInBounds_toArray, List.set_cons_zero, List.set_cons_succ]
          refine' take_at 23 (v := _) rfl (by kernel_rfl) (by kernel_rfl) (by kernel_rfl) (fun _ _ _ h => h) rfl ?y68 hHeld ?r68
          case y68 =>
            intro w hSw
            try dsimp only at hSw
            go_simp
            try with_reducible rfl
          try simp only [Act.put, List.setIfInBounds_toArray, List.set_cons_zero, List.set_cons_succ]
          refine' take_at 24 (v := _) rfl (by kernel_rfl) (by kernel_rfl) (by kernel_rfl) (fun _ _ _ h => h) rfl ?y69 hHeld ?r69
          case y69 =>
            intro w hSw
            try dsimp only at hSw
            go_simp
            try with_reducible rfl
          try simp only [Act.put, List.setIfInBounds_toArray, List.set_cons_zero, List.set_cons_succ]
          refine' take_at 25 (v := _) rfl (by kernel_rfl) (by kernel_rfl) (by kernel_rfl) (fun _ _ _ h => h) rfl ?y70 hHeld ?r70
          case y70 =>
            intro w hSw
            try dsimp only at hSw
            go_simp
            try with_reducible rfl
          try simp only [Act.put, List.setIfInBounds_toArray, List.set_cons_zero, List.set_cons_succ]
          refine' take_at 26 (v := _) rfl (by kernel_rfl) (by kernel_rfl) (by kernel_rfl) (fun _ _ _ h => h) rfl ?y71 hHeld ?r71
          case y71 =>
            intro w hSw
            try dsimp only at hSw
            go_simp
            try with_reducible rfl
          try simp only [Act.put, List.setIfInBounds_toArray, List.set_cons_zero, List.set_cons_succ]
          refine' take_at 28 (v := _) rfl (by kernel_rfl) (by kernel_rfl) (by kernel_rfl) (fun _ _ _ h => h) rfl ?y72 hHeld ?r72
          case y72 =>
            intro w hSw
            try dsimp only at hSw
            go_simp
            try with_reducible rfl
          try simp only [Act.put, List.setIfInBounds_toArray, List.set_cons_zero, List.set_cons_succ]
          refine step_at 27 (by kernel_rfl) rfl rfl (fun K hK => ?_)
          go_simp
          refine (HS.out.absD _ (Sd.pw (w0 := w) (L := [(w.heap.size, .bool n0, .string s0, .int .i64 (e0)), (w.heap.size + 1, .bool n1, .string s1, .int .i64 (e1)), (gx, .bool false, .string T, .int .i64 (X)), (gy, .bool false, .string T, .int .i64 (X)), (w2.heap.size, .bool np, .string U, .int .i64 (Y))]) hHeld)).mono ?_
          rintro r w1 ⟨rfl, hb⟩
          have hS := Sd.keep (w0 := w) (L := [(w.heap.size, .bool n0, .string s0, .int .i64 (e0)), (w.heap.size + 1, .bool n1, .string s1, .int .i64 (e1)), (gx, .bool false, .string T, .int .i64 (X)), (gy, .bool false, .string T, .int .i64 (X)), (w2.heap.size, .bool np, .string U, .int .i64 (Y))]) hHeld hb
          clear hHeld
          skip
          clear hb
          go_wp2_with fail
          refine hK.out _ _ hS (fun hHeld => ?_)
          clear hK K hS
          try simp only [Act.put, List.setIfInBounds_toArray, List.set_cons_zero, List.set_cons_succ]
          refine step_at 29 (by kernel_rfl) rfl rfl (fun K hK => ?_)
          go_simp
          refine (HS.out.absE _ (Sd.pw (w0 := w) (L := [(w.heap.size, .bool n0, .string s0, .int .i64 (e0)), (w.heap.size + 1, .bool n1, .string s1, .int .i64 (e1)), (gx, .bool false, .string T, .int .i64 (X)), (gy, .bool false, .string T, .int .i64 (X)), (w2.heap.size, .bool np, .string U, .int .i64 (Y))]) hHeld)).mono ?_
          rintro r w1 ⟨rfl, hb⟩
          have hS := Sd.keep (w0 := w) (L := [(w.heap.size, .bool n0, .string s0, .int .i64 (e0)), (w.heap.size + 1, .bool n1, .string s1, .int .i64 (e1)), (gx, .bool false, .string T, .int .i64 (X)), (gy, .bool false, .string T, .int .i64 (X)), (w2.heap.size, .bool np, .string U, .int .i64 (Y))]) hHeld hb
          clear hHeld
          skip
          clear hb
          go_wp2_with fail
          refine hK.out _ _ hS (fun hHeld => ?_)
          clear hK K hS
          try simp only [Act.put, List.setIfInBounds_toArray, List.set_cons_zero, List.set_cons_succ]
          refine' take_at 30 (v := _) rfl (by kernel_rfl) (by kernel_rfl) (by kernel_rfl) (fun _ _ _ h => h) rfl ?y73 hHeld ?r73
          case y73 =>
            intro w hSw
            try dsimp only at hSw
            go_simp
            try with_reducible rfl
          try simp only [Act.put, List.setIfInBounds_toArray, List.set_cons_zero, List.set_cons_succ]
          refine' take_at 31 (v := _) rfl (by kernel_rfl) (by kernel_rfl) (by kernel_rfl) (fun _ _ _ h => h) rfl ?y74 hHeld ?r74
          case y74 =>
            intro w hSw
            try dsimp only at hSw
            go_simp
            try with_reducible rfl
          try simp only [Act.put, List.setIfInBounds_toArray, List.set_cons_zero, List.set_cons_succ]
          refine' take_at 32 (v := _) rfl (by kernel_rfl) (by kernel_rfl) (by kernel_rfl) (fun _ _ _ h => h) rfl ?y75 hHeld ?r75
          case y75 =>
            intro w hSw
            try dsimp only at hSw
            go_simp
            try with_reducible rfl
          try simp only [Act.put, List.setIfInBounds_toArray, List.set_cons_zero, List.set_cons_succ]
          refine' take_at 33 (v := _) rfl (by kernel_rfl) (by kernel_rfl) (by kernel_rfl) (fun _ _ _ h => h) rfl ?y76 hHeld ?r76
          case y76 =>
            intro w hSw
            try dsimp only at hSw
            go_simp
            try with_reducible rfl
          try simp only [Act.put, List.setIfInBounds_toArray, List.set_cons_zero, List.set_cons_succ]
          refine' take_at 34 (v := _) rfl (by kernel_rfl) (by kernel_rfl) (by kernel_rfl) (fun _ _ _ h => h) rfl ?y77 hHeld ?r77
          case y77 =>
            intro w hSw
            try dsimp only at hSw
            go_simp
            try with_reducible rfl
          try simp only [Act.put, List.setIfInBounds_toArray, List.set_cons_zero, List.set_cons_succ]
          refine' take_at 35 (v := _) rfl (by kernel_rfl) (by kernel_rfl) (by kernel_rfl) (fun _ _ _ h => h) rfl ?y78 hHeld ?r78
          case y78 =>
            intro w hSw
            try dsimp only at hSw
            go_simp
            try with_reducible rfl
          try simp only [Act.put, List.setIfInBounds_toArray, List.set_cons_zero, List.set_cons_succ]
          refine' take_at 36 (v := _) rfl (by kernel_rfl) (by kernel_rfl) (by kernel_rfl) (fun _ _ _ h => h) rfl ?y79 hHeld ?r79
          case y79 =>
            intro w hSw
            try dsimp only at hSw
            go_simp
            try with_reducible rfl
          try simp only [Act.put, List.setIfInBounds_toArray, List.set_cons_zero, List.set_cons_succ]
          refine' take_at 37 (v := _) rfl (by kernel_rfl) (by kernel_rfl) (by kernel_rfl) (fun _ _ _ h => h) rfl ?y80 hHeld ?r80
          case y80 =>
            intro w hSw
            try dsimp only at hSw
            go_simp
            try with_reducible rfl
          try simp only [Act.put, List.setIfInBounds_toArray, List.set_cons_zero, List.set_cons_succ]
          refine' take_at 38 (v := _) rfl (by kernel_rfl) (by kernel_rfl) (by kernel_rfl) (fun _ _ _ h => h) rfl ?y81 hHeld ?r81
          case y81 =>
            intro w hSw
            try dsimp only at hSw
            go_simp
            try with_reducible rfl
          try simp only [Act.put, List.setIfInBounds_toArray, List.set_cons_zero, List.set_cons_succ]
          refine' take_at 39 (v := _) rfl (by kernel_rfl) (by kernel_rfl) (by kernel_rfl) (fun _ _ _ h => h) rfl ?y82 hHeld ?r82
          case y82 =>
            intro w hSw
            try dsimp only at hSw
            go_simp
            try with_reducible rfl
          try simp only [Act.put, List.setIfInBounds_toArray, List.set_cons_zero, List.set_cons_succ]
          refine' take_at 40 (v := _) rfl (by kernel_rfl) (by kernel_rfl) (by kernel_rfl) (fun _ _ _ h => h) rfl ?y83 hHeld ?r83
          case y83 =>
            intro w hSw
            try dsimp only at hSw
            go_simp
            try with_reducible rfl
          try simp only [Act.put, List.setIfInBounds_toArray, List.set_cons_zero, List.set_cons_succ]
          refine' take_at 41 (v := _) rfl (by kernel_rfl) (by kernel_rfl) (by kernel_rfl) (fun _ _ _ h => h) rfl ?y84 hHeld ?r84
          case y84 =>
            intro w hSw
            try dsimp only at hSw
            go_simp
            try with_reducible rfl
          try simp only [Act.put, List.setIfInBounds_toArray, List.set_cons_zero, List.set_cons_succ]
          refine' take_at 42 (v := _) rfl (by kernel_rfl) (by kernel_rfl) (by kernel_rfl) (fun _ _ _ h => h) rfl ?y85 hHeld ?r85
          case y85 =>
            intro w hSw
            try dsimp only at hSw
            go_simp
            try with_reducible rfl
          try simp only [Act.put, List.setIfInBounds_toArray, List.set_cons_zero, List.set_cons_succ]
          refine' take_at 43 (v := _) rfl (by kernel_rfl) (by kernel_rfl) (by kernel_rfl) (fun _ _ _ h => h) rfl ?y86 hHeld ?r86
          case y86 =>
            intro w hSw
            try dsimp only at hSw
            go_simp
            try with_reducible rfl
          try simp only [Act.put, List.setIfInBounds_toArray, List.set_cons_zero, List.set_cons_succ]
          refine' take_at 44 (v := _) rfl (by kernel_rfl) (by kernel_rfl) (by kernel_rfl) (fun _ _ _ h => h) rfl ?y87 hHeld ?r87
          case y87 =>
            intro w hSw
            try dsimp only at hSw
            go_simp
            try with_reducible rfl
          try simp only [Act.put, List.setIfInBounds_toArray, List.set_cons_zero, List.set_cons_succ]
          refine' take_at 45 (v := _) rfl (by kernel_rfl) (by kernel_rfl) (by kernel_rfl) (fun _ _ _ h => h) rfl ?y88 hHeld ?r88
          case y88 =>
            intro w hSw
            try dsimp only at hSw
            go_simp
            try with_reducible rfl
          try simp only [Act.put, List.setIfInBounds_toArray, List.set_cons_zero, List.set_cons_succ]
          refine' take_at 46 (v := _) rfl (by kernel_rfl) (by kernel_rfl) (by kernel_rfl) (fun _ _ _ h => h) rfl ?y89 hHeld ?r89
          case y89 =>
            intro w hSw
            try dsimp only at hSw
            go_simp
            try with_reducible rfl
          try simp only [Act.put, List.setIfInBounds_toArray, List.set_cons_zero, List.set_cons_succ]
          refine' take_at 47 (v := _) rfl (by kernel_rfl) (by kernel_rfl) (by kernel_rfl) (fun _ _ _ h => h) rfl ?y90 hHeld ?r90
          case y90 =>
            intro w hSw
            try dsimp only at hSw
            go_simp
            try with_reducible rfl
          try simp only [Act.put, List.setIfInBounds_toArray, List.set_cons_zero, List.set_cons_succ]
          refine' take_at 48 (v := _) rfl (by kernel_rfl) (by kernel_rfl) (by kernel_rfl) (fun _ _ _ h => h) rfl ?y91 hHeld ?r91
          case y91 =>
            intro w hSw
            try dsimp only at hSw
            go_simp
            try with_reducible rfl
          try simp only [Act.put, List.setIfInBounds_toArray, List.set_cons_zero, List.set_cons_succ]
          refine' take_at 50 (v := _) rfl (by kernel_rfl) (by kernel_rfl) (by kernel_rfl) (fun _ _ _ h => h) rfl ?y92 hHeld ?r92
          case y92 =>
            intro w hSw
            try dsimp only at hSw
            go_simp
            try with_reducible rfl
          try simp only [Act.put, List.setIfInBounds_toArray, List.set_cons_zero, List.set_cons_succ]
          refine' take_at 53 (v := _) rfl (by kernel_rfl) (by kernel_rfl) (by kernel_rfl) (fun _ _ _ h => h) rfl ?y93 hHeld ?r93
          case y93 =>
            intro w hSw
            try dsimp only at hSw
            go_simp
            try with_reducible rfl
          try simp only [Act.put, List.setIfInBounds_toArray, List.set_cons_zero, List.set_cons_succ]
          refine step_at 49 (by kernel_rfl) rfl rfl (fun K hK => ?_)
          go_simp
          refine (HS.out.abs0 _ (Sd.pw (w0 := w) (L := [(w.heap.size, .bool n0, .string s0, .int .i64 (e0)), (w.heap.size + 1, .bool n1, .string s1, .int .i64 (e1)), (gx, .bool false, .string T, .int .i64 (X)), (gy, .bool false, .string T, .int .i64 (X)), (w2.heap.size, .bool np, .string U, .int .i64 (Y))]) hHeld)).mono ?_
          rintro r w1 ⟨rfl, hb⟩
          have hS := Sd.keep (w0 := w) (L := [(w.heap.size, .bool n0, .string s0, .int .i64 (e0)), (w.heap.size + 1, .bool n1, .string s1, .int .i64 (e1)), (gx, .bool false, .string T, .int .i64 (X)), (gy, .bool false, .string T, .int .i64 (X)), (w2.heap.size, .bool np, .string U, .int .i64 (Y))]) hHeld hb
          clear hHeld
          skip
          clear hb
          go_wp2_with fail
          refine hK.out _ _ hS (fun hHeld => ?_)
          clear hK K hS
          try simp only [Act.put, List.setIfInBounds_toArray, List.set_cons_zero, List.set_cons_succ]
          refine step_at 51 (by kernel_rfl) rfl rfl (fun K hK => ?_)
          go_simp
          refine (HS.out.abs1 _ (Sd.pw (w0 := w) (L := [(w.heap.size, .bool n0, .string s0, .int .i64 (e0)), (w.heap.size + 1, .bool n1, .string s1, .int .i64 (e1)), (gx, .bool false, .string T, .int .i64 (X)), (gy, .bool false, .string T, .int .i64 (X)), (w2.heap.size, .bool np, .string U, .int .i64 (Y))]) hHeld)).mono ?_
          rintro r w1 ⟨rfl, hb⟩
          have hS := Sd.keep (w0 := w) (L := [(w.heap.size, .bool n0, .string s0, .int .i64 (e0)), (w.heap.size + 1, .bool n1, .string s1, .int .i64 (e1)), (gx, .bool false, .string T, .int .i64 (X)), (gy, .bool false, .string T, .int .i64 (X)), (w2.heap.size, .bool np, .string U, .int .i64 (Y))]) hHeld hb
          clear hHeld
          skip
          clear hb
          go_wp2_with fail
          refine hK.out _ _ hS (fun hHeld => ?_)
          clear hK K hS
          try simp only [Act.put, List.setIfInBounds_toArray, List.set_cons_zero, List.set_cons_succ]
          refine step_at 52 (by kernel_rfl) rfl rfl (fun K hK => ?_)
          go_simp
          refine (HS.out.mul2 _ (Sd.pw (w0 := w) (L := [(w.heap.size, .bool n0, .string s0, .int .i64 (e0)), (w.heap.size + 1, .bool n1, .string s1, .int .i64 (e1)), (gx, .bool false, .string T, .int .i64 (X)), (gy, .bool false, .string T, .int .i64 (X)), (w2.heap.size, .bool np, .string U, .int .i64 (Y))]) hHeld)).mono ?_
          rintro r w1 ⟨rfl, hb⟩
          have hS := Sd.keep (w0 := w) (L := [(w.heap.size, .bool n0, .string s0, .int .i64 (e0)), (w.heap.size + 1, .bool n1, .string s1, .int .i64 (e1)), (gx, .bool false, .string T, .int .i64 (X)), (gy, .bool false, .string T, .int .i64 (X)), (w2.heap.size, .bool np, .string U, .int .i64 (Y))]) hHeld hb
          clear hHeld
          skip
          clear hb
          go_wp2_with fail
          refine hK.out _ _ hS (fun hHeld => ?_)
          clear hK K hS
          try simp only [Act.put, List.setIfInBounds_toArray, List.set_cons_zero, List.set_cons_succ]
          refine step_at 54 (by kernel_rfl) rfl rfl (fun K hK => ?_)
          go_simp
          refine (HS.out.absP _ (Sd.pw (w0 := w) (L := [(w.heap.size, .bool n0, .string s0, .int .i64 (e0)), (w.heap.size + 1, .bool n1, .string s1, .int .i64 (e1)), (gx, .bool false, .string T, .int .i64 (X)), (gy, .bool false, .string T, .int .i64 (X)), (w2.heap.size, .bool np, .string U, .int .i64 (Y))]) hHeld)).mono ?_
          rintro r w1 ⟨rfl, hb⟩
          have hS := Sd.keep (w0 := w) (L := [(w.heap.size, .bool n0, .string s0, .int .i64 (e0)), (w.heap.size + 1, .bool n1, .string s1, .int .i64 (e1)), (gx, .bool false, .string T, .int .i64 (X)), (gy, .bool false, .string T, .int .i64 (X)), (w2.heap.size, .bool np, .string U, .int .i64 (Y))]) hHeld hb
          clear hHeld
          skip
          clear hb
          go_wp2_with fail
          refine hK.out _ _ hS (fun hHeld => ?_)
          clear hK K hS
          try simp only [Act.put, List.setIfInBounds_toArray, List.set_cons_zero, List.set_cons_succ]
          refine' take_at 55 (v := _) rfl (by kernel_rfl) (by kernel_rfl) (by kernel_rfl) (fun _ _ _ h => h) rfl ?y94 hHeld ?r94
          case y94 =>
            intro w hSw
            try dsimp only at hSw
            go_simp
            try with_reducible rfl
          try simp only [Act.put, List.setIfInBounds_toArray, List.set_cons_zero, List.set_cons_succ]
          refine' take_at 56 (v := _) rfl (by kernel_rfl) (by kernel_rfl) (by kernel_rfl) (fun _ _ _ h => h) rfl ?y95 hHeld ?r95
          case y95 =>
            intro w hSw
            try dsimp only at hSw
            go_simp
            try with_reducible rfl
          try simp only [Act.put, List.setIfInBounds_toArray, List.set_cons_zero, List.set_cons_succ]
          refine' take_at 57 (v := _) rfl (by kernel_rfl) (by kernel_rfl) (by kernel_rfl) (fun _ _ _ h => h) rfl ?y96 hHeld ?r96
          case y96 =>
            intro w hSw
            try dsimp only at hSw
            go_simp
            try with_reducible rfl
          try simp only [Act.put, List.setIfInBounds_toArray, List.set_cons_zero, List.set_cons_succ]
          refine wpAnyH_done (by kernel_rfl) ?_ _
          have HB := Lib.hid (Sd.bel (w0 := w) (L := [(w.heap.size, .bool n0, .string s0, .int .i64 (e0)), (w.heap.size + 1, .bool n1, .string s1, .int .i64 (e1)), (gx, .bool false, .string T, .int .i64 (X)), (gy, .bool false, .string T, .int .i64 (X)), (w2.heap.size, .bool np, .string U, .int .i64 (Y))]) hHeld)
          clear hHeld
          go_wp2
          go_ret
          exact ⟨rfl, HB.out⟩
      · rcases HS.out.p with hp | hp
        · obtain ⟨hT, rfl⟩ := hd
          have hU := hp
          go_wp2_with fail
          refine wp_region_held_drew (S := (fun w' => ((w'.cell? ⟨w.heap.size, 0, none⟩ = some (.bool n0) ∧ w'.cell? ⟨w.heap.size, 1, none⟩ = some (.string s0) ∧ w'.cell? ⟨w.heap.size, 2, none⟩ = some (.int .i64 (e0))) ∧ (w'.cell? ⟨w.heap.size + 1, 0, none⟩ = some (.bool n1) ∧ w'.cell? ⟨w.heap.size + 1, 1, none⟩ = some (.string s1) ∧ w'.cell? ⟨w.heap.size + 1, 2, none⟩ = some (.int .i64 (e1))) ∧ (w'.cell? ⟨gx, 0, none⟩ = some (.bool (!ne)) ∧ w'.cell? ⟨gx, 1, none⟩ = some (.string T) ∧ w'.cell? ⟨gx, 2, none⟩ = some (.int .i64 (X))) ∧ (w'.cell? ⟨gy, 0, none⟩ = some (.bool ne) ∧ w'.cell? ⟨gy, 1, none⟩ = some (.string T) ∧ w'.cell? ⟨gy, 2, none⟩ = some (.int .i64 (X))) ∧ (w'.cell? ⟨w2.heap.size, 0, none⟩ = some (.bool np) ∧ w'.cell? ⟨w2.heap.size, 1, none⟩ = some (.string U) ∧ w'.cell? ⟨w2.heap.size, 2, none⟩ = some (.int .i64 (Y))) ∧ True) ∧ Hid (Kept3 w [(w.heap.size, .bool n0, .string s0, .int .i64 (e0)), (w.heap.size + 1, .bool n1, .string s1, .int .i64 (e1)), (gx, .bool (!ne), .string T, .int .i64 (X)), (gy, .bool ne, .string T, .int .i64 (X)), (w2.heap.size, .bool np, .string U, .int .i64 (Y))] w'))) (by kernel_rfl) (Sd.of HK.out.drew) (fun hHeld => ?_)
          refine step_at 0 (by kernel_rfl) rfl rfl (fun K hK => ?_)
          go_simp
          refine (answers06_c _ (Sd.pw (w0 := w) (L := [(w.heap.size, .bool n0, .string s0, .int .i64 (e0)), (w.heap.size + 1, .bool n1, .string s1, .int .i64 (e1)), (gx, .bool (!ne), .string T, .int .i64 (X)), (gy, .bool ne, .string T, .int .i64 (X)), (w2.heap.size, .bool np, .string U, .int .i64 (Y))]) hHeld)).mono ?_
          rintro r w1 ⟨rfl, hb⟩
          have hS := Sd.keep (w0 := w) (L := [(w.heap.size, .bool n0, .string s0, .int .i64 (e0)), (w.heap.size + 1, .bool n1, .string s1, .int .i64 (e1)), (gx, .bool (!ne), .string T, .int .i64 (X)), (gy, .bool ne, .string T, .int .i64 (X)), (w2.heap.size, .bool np, .string U, .int .i64 (Y))]) hHeld hb
          clear hHeld
          skip
          clear hb
          go_wp2_with fail
          refine hK.out _ _ hS (fun hHeld => ?_)
          clear hK K hS
          try simp only [Act.put, List.setIfInBounds_toArray, List.set_cons_zero, List.set_cons_succ]
          refine' take_at 1 (v := _) rfl (by kernel_rfl) (by kernel_rfl) (by kernel_rfl) (fun _ _ _ h => h) rfl ?y97 hHeld ?r97
          case y97 =>
            intro w hSw
            try dsimp only at hSw
            go_simp
            try with_reducible rfl
          try simp only [Act.put, List.setIfInBounds_toArray, List.set_cons_zero, List.set_cons_succ]
          refine' take_at 2 (v := _) rfl (by kernel_rfl) (by kernel_rfl) (by kernel_rfl) (fun _ _ _ h => h) rfl ?y98 hHeld ?r98
          case y98 =>
            intro w hSw
            try dsimp only at hSw
            go_simp
            try with_reducible rfl
          try simp only [Act.put, List.setIfInBounds_toArray, List.set_cons_zero, List.set_cons_succ]
          refine' take_at 5 (v := _) rfl (by kernel_rfl) (by kernel_rfl) (by kernel_rfl) (fun _ _ _ h => h) rfl ?y99 hHeld ?r99
          case y99 =>
            intro w hSw
            try dsimp only at hSw
            go_simp
            try with_reducible rfl
          try simp only [Act.put, List.setIfInBounds_toArray, List.set_cons_zero, List.set_cons_succ]
          refine step_at 3 (by kernel_rfl) rfl rfl (fun K hK => ?_)
          go_simp
          refine (HS.out.neg1 _ (Sd.pw (w0 := w) (L := [(w.heap.size, .bool n0, .string s0, .int .i64 (e0)), (w.heap.size + 1, .bool n1, .string s1, .int .i64 (e1)), (gx, .bool (!ne), .string T, .int .i64 (X)), (gy, .bool ne, .string T, .int .i64 (X)), (w2.heap.size, .bool np, .string U, .int .i64 (Y))]) hHeld)).mono ?_
          rintro r w1 ⟨rfl, hb⟩
          have hS := Sd.keep (w0 := w) (L := [(w.heap.size, .bool n0, .string s0, .int .i64 (e0)), (w.heap.size + 1, .bool n1, .string s1, .int .i64 (e1)), (gx, .bool (!ne), .string T, .int .i64 (X)), (gy, .bool ne, .string T, .int .i64 (X)), (w2.heap.size, .bool np, .string U, .int .i64 (Y))]) hHeld hb
          clear hHeld
          skip
          clear hb
          go_wp2_with fail
          refine hK.out _ _ hS (fun hHeld => ?_)
          clear hK K hS
          try simp only [Act.put, List.setIfInBounds_toArray, List.set_cons_zero, List.set_cons_succ]
          refine step_at 4 (by kernel_rfl) rfl rfl (fun K hK => ?_)
          go_simp
          refine (HS.out.neg2 _ (Sd.pw (w0 := w) (L := [(w.heap.size, .bool n0, .string s0, .int .i64 (e0)), (w.heap.size + 1, .bool n1, .string s1, .int .i64 (e1)), (gx, .bool (!ne), .string T, .int .i64 (X)), (gy, .bool ne, .string T, .int .i64 (X)), (w2.heap.size, .bool np, .string U, .int .i64 (Y))]) hHeld)).mono ?_
          rintro r w1 ⟨rfl, hb⟩
          have hS := Sd.keep (w0 := w) (L := [(w.heap.size, .bool n0, .string s0, .int .i64 (e0)), (w.heap.size + 1, .bool n1, .string s1, .int .i64 (e1)), (gx, .bool (!ne), .string T, .int .i64 (X)), (gy, .bool ne, .string T, .int .i64 (X)), (w2.heap.size, .bool np, .string U, .int .i64 (Y))]) hHeld hb
          clear hHeld
          skip
          clear hb
          go_wp2_with fail
          refine hK.out _ _ hS (fun hHeld => ?_)
          clear hK K hS
          try simp only [Act.put, List.setIfInBounds_toArray, List.set_cons_zero, List.set_cons_succ]
          refine step_at 6 (by kernel_rfl) rfl rfl (fun K hK => ?_)
          go_simp
          refine (HS.out.norm _ (Sd.pw (w0 := w) (L := [(w.heap.size, .bool n0, .string s0, .int .i64 (e0)), (w.heap.size + 1, .bool n1, .string s1, .int .i64 (e1)), (gx, .bool (!ne), .string T, .int .i64 (X)), (gy, .bool ne, .string T, .int .i64 (X)), (w2.heap.size, .bool np, .string U, .int .i64 (Y))]) hHeld)).mono ?_
          rintro r w1 ⟨rfl, hb⟩
          have hS := Sd.keep (w0 := w) (L := [(w.heap.size, .bool n0, .string s0, .int .i64 (e0)), (w.heap.size + 1, .bool n1, .string s1, .int .i64 (e1)), (gx, .bool (!ne), .string T, .int .i64 (X)), (gy, .bool ne, .string T, .int .i64 (X)), (w2.heap.size, .bool np, .string U, .int .i64 (Y))]) hHeld hb
          clear hHeld
          skip
          clear hb
          go_wp2_with fail
          refine hK.out _ _ hS (fun hHeld => ?_)
          clear hK K hS
          try simp only [Act.put, List.setIfInBounds_toArray, List.set_cons_zero, List.set_cons_succ]
          refine' take_at 7 (v := _) rfl (by kernel_rfl) (by kernel_rfl) (by kernel_rfl) (fun _ _ _ h => h) rfl ?y100 hHeld ?r100
          case y100 =>
            intro w hSw
            try dsimp only at hSw
            go_simp
            try with_reducible rfl
          try simp only [Act.put, List.setIfInBounds_toArray, List.set_cons_zero, List.set_cons_succ]
          refine' take_at 8 (v := _) rfl (by kernel_rfl) (by kernel_rfl) (by kernel_rfl) (fun _ _ _ h => h) rfl ?y101 hHeld ?r101
          case y101 =>
            intro w hSw
            try dsimp only at hSw
            go_simp
            try with_reducible rfl
          try simp only [Act.put, List.setIfInBounds_toArray, List.set_cons_zero, List.set_cons_succ]
          refine' take_at 9 (v := _) rfl (by kernel_rfl) (by kernel_rfl) (by kernel_rfl) (fun _ _ _ h => h) rfl ?y102 hHeld ?r102
          case y102 =>
            intro w hSw
            try dsimp only at hSw
            go_simp
            try with_reducible rfl
          try simp only [Act.put, List.setIfInBounds_toArray, List.set_cons_zero, List.set_cons_succ]
          refine' take_at 10 (v := _) rfl (by kernel_rfl) (by kernel_rfl) (by kernel_rfl) (fun _ _ _ h => h) rfl ?y103 hHeld ?r103
          case y103 =>
            intro w hSw
            try dsimp only at hSw
            go_simp
            try with_reducible rfl
          try simp only [Act.put, List.setIfInBounds_toArray, List.set_cons_zero, List.set_cons_succ]
          refine' take_at 11 (v := _) rfl (by kernel_rfl) (by kernel_rfl) (by kernel_rfl) (fun _ _ _ h => h) rfl ?y104 hHeld ?r104
          case y104 =>
            intro w hSw
            try dsimp only at hSw
            go_simp
            try with_reducible rfl
          try simp only [Act.put, List.setIfInBounds_toArray, List.set_cons_zero, List.set_cons_succ]
          refine' take_at 12 (v := _) rfl (by kernel_rfl) (by kernel_rfl) (by kernel_rfl) (fun _ _ _ h => h) rfl ?y105 hHeld ?r105
          case y105 =>
            intro w hSw
            try dsimp only at hSw
            go_simp
            try with_reducible rfl
          try simp only [Act.put, List.setIfInBounds_toArray, List.set_cons_zero, List.set_cons_succ]
          refine' take_at 13 (v := _) rfl (by kernel_rfl) (by kernel_rfl) (by kernel_rfl) (fun _ _ _ h => h) rfl ?y106 hHeld ?r106
          case y106 =>
            intro w hSw
            try dsimp only at hSw
            go_simp
            try with_reducible rfl
          try simp only [Act.put, List.setIfInBounds_toArray, List.set_cons_zero, List.set_cons_succ]
          refine skip_at 14 rfl (by kernel_rfl) (by kernel_rfl) (by kernel_rfl) (fun _ _ _ h => h) rfl hHeld ?_
          try simp only [Act.put, List.setIfInBounds_toArray, List.set_cons_zero, List.set_cons_succ]
          refine skip_at 15 rfl (by kernel_rfl) (by kernel_rfl) (by kernel_rfl) (fun _ _ _ h => h) rfl hHeld ?_
          try simp only [Act.put, List.setIfInBounds_toArray, List.set_cons_zero, List.set_cons_succ]
          refine skip_at 16 rfl (by kernel_rfl) (by kernel_rfl) (by kernel_rfl) (fun _ _ _ h => h) rfl hHeld ?_
          try simp only [Act.put, List.setIfInBounds_toArray, List.set_cons_zero, List.set_cons_succ]
          refine' take_at 17 (v := _) rfl (by kernel_rfl) (by kernel_rfl) (by kernel_rfl) (fun _ _ _ h => h) rfl ?y110 hHeld ?r110
          case y110 =>
            intro w hSw
            try dsimp only at hSw
            go_simp
            try with_reducible rfl
          try simp only [Act.put, List.setIfInBounds_toArray, List.set_cons_zero, List.set_cons_succ]
          refine' take_at 18 (v := _) rfl (by kernel_rfl) (by kernel_rfl) (by kernel_rfl) (fun _ _ _ h => h) rfl ?y111 hHeld ?r111
          case y111 =>
            intro w hSw
            try dsimp only at hSw
            go_simp
            try with_reducible rfl
          try simp only [Act.put, List.setIfInBounds_toArray, List.set_cons_zero, List.set_cons_succ]
          refine' take_at 19 (v := _) rfl (by kernel_rfl) (by kernel_rfl) (by kernel_rfl) (fun _ _ _ h => h) rfl ?y112 hHeld ?r112
          case y112 =>
            intro w hSw
            try dsimp only at hSw
            go_simp
            try with_reducible rfl
          try simp only [Act.put, List.setIfInBounds_toArray, List.set_cons_zero, List.set_cons_succ]
          refine' take_at 20 (v := _) rfl (by kernel_rfl) (by kernel_rfl) (by kernel_rfl) (fun _ _ _ h => h) rfl ?y113 hHeld ?r113
          case y113 =>
            intro w hSw
            try dsimp only at hSw
            go_simp
            try with_reducible rfl
          try simp only [Act.put, List.setIfInBounds_toArray, List.set_cons_zero, List.set_cons_succ]
          refine step_at 21 (by kernel_rfl) rfl rfl (fun K hK => ?_)
          go_simp
          refine (HS.out.negE _ (Sd.pw (w0 := w) (L := [(w.heap.size, .bool n0, .string s0, .int .i64 (e0)), (w.heap.size + 1, .bool n1, .string s1, .int .i64 (e1)), (gx, .bool (!ne), .string T, .int .i64 (X)), (gy, .bool ne, .string T, .int .i64 (X)), (w2.heap.size, .bool np, .string U, .int .i64 (Y))]) hHeld)).mono ?_
          rintro r w1 ⟨rfl, hb⟩
          have hS := Sd.keep (w0 := w) (L := [(w.heap.size, .bool n0, .string s0, .int .i64 (e0)), (w.heap.size + 1, .bool n1, .string s1, .int .i64 (e1)), (gx, .bool (!ne), .string T, .int .i64 (X)), (gy, .bool ne, .string T, .int .i64 (X)), (w2.heap.size, .bool np, .string U, .int .i64 (Y))]) hHeld hb
          clear hHeld
          skip
          clear hb
          go_wp2_with fail
          refine hK.out _ _ hS (fun hHeld => ?_)
          clear hK K hS
          try simp only [Act.put, List.setIfInBounds_toArray, List.set_cons_zero, List.set_cons_succ]
          refine' take_at 22 (v := _) rfl (by kernel_rfl) (by kernel_rfl) (by kernel_rfl) (fun _ _ _ h => h) rfl ?y114 hHeld ?r114
          case y114 =>
            intro w hSw
            try dsimp only at hSw
            go_simp
            try with_reducible rfl
          try simp only [Act.put, List.setIfInBounds_toArray, List.set_cons_zero, List.set_cons_succ]
          refine' take_at 23 (v := _) rfl (by kernel_rfl) (by kernel_rfl) (by kernel_rfl) (fun _ _ _ h => h) rfl ?y115 hHeld ?r115
          case y115 =>
            intro w hSw
            try dsimp only at hSw
            go_simp
            try with_reducible rfl
          try simp only [Act.put, List.setIfInBounds_toArray, List.set_cons_zero, List.set_cons_succ]
          refine' take_at 24 (v := _) rfl (by kernel_rfl) (by kernel_rfl) (by kernel_rfl) (fun _ _ _ h => h) rfl ?y116 hHeld ?r116
          case y116 =>
            intro w hSw
            try dsimp only at hSw
            go_simp
            try with_reducible rfl
          try simp only [Act.put, List.setIfInBounds_toArray, List.set_cons_zero, List.set_cons_succ]
          refine' take_at 25 (v := _) rfl (by kernel_rfl) (by kernel_rfl) (by kernel_rfl) (fun _ _ _ h => h) rfl ?y117 hHeld ?r117
          case y117 =>
            intro w hSw
            try dsimp only at hSw
            go_simp
            try with_reducible rfl
          try simp only [Act.put, List.setIfInBounds_toArray, List.set_cons_zero, List.set_cons_succ]
          refine' take_at 26 (v := _) rfl (by kernel_rfl) (by kernel_rfl) (by kernel_rfl) (fun _ _ _ h => h) rfl ?y118 hHeld ?r118
          case y118 =>
            intro w hSw
            try dsimp only at hSw
            go_simp
            try with_reducible rfl
          try simp only [Act.put, List.setIfInBounds_toArray, List.set_cons_zero, List.set_cons_succ]
          refine' take_at 28 (v := _) rfl (by kernel_rfl) (by kernel_rfl) (by kernel_rfl) (fun _ _ _ h => h) rfl ?y119 hHeld ?r119
          case y119 =>
            intro w hSw
            try dsimp only at hSw
            go_simp
            try with_reducible rfl
          try simp only [Act.put, List.setIfInBounds_toArray, List.set_cons_zero, List.set_cons_succ]
          refine step_at 27 (by kernel_rfl) rfl rfl (fun K hK => ?_)
          go_simp
          refine (HS.out.absD _ (Sd.pw (w0 := w) (L := [(w.heap.size, .bool n0, .string s0, .int .i64 (e0)), (w.heap.size + 1, .bool n1, .string s1, .int .i64 (e1)), (gx, .bool (!ne), .string T, .int .i64 (X)), (gy, .bool ne, .string T, .int .i64 (X)), (w2.heap.size, .bool np, .string U, .int .i64 (Y))]) hHeld)).mono ?_
          rintro r w1 ⟨rfl, hb⟩
          have hS := Sd.keep (w0 := w) (L := [(w.heap.size, .bool n0, .string s0, .int .i64 (e0)), (w.heap.size + 1, .bool n1, .string s1, .int .i64 (e1)), (gx, .bool (!ne), .string T, .int .i64 (X)), (gy, .bool ne, .string T, .int .i64 (X)), (w2.heap.size, .bool np, .string U, .int .i64 (Y))]) hHeld hb
          clear hHeld
          skip
          clear hb
          go_wp2_with fail
          refine hK.out _ _ hS (fun hHeld => ?_)
          clear hK K hS
          try simp only [Act.put, List.setIfInBounds_toArray, List.set_cons_zero, List.set_cons_succ]
          refine step_at 29 (by kernel_rfl) rfl rfl (fun K hK => ?_)
          go_simp
          refine (HS.out.absE _ (Sd.pw (w0 := w) (L := [(w.heap.size, .bool n0, .string s0, .int .i64 (e0)), (w.heap.size + 1, .bool n1, .string s1, .int .i64 (e1)), (gx, .bool (!ne), .string T, .int .i64 (X)), (gy, .bool ne, .string T, .int .i64 (X)), (w2.heap.size, .bool np, .string U, .int .i64 (Y))]) hHeld)).mono ?_
          rintro r w1 ⟨rfl, hb⟩
          have hS := Sd.keep (w0 := w) (L := [(w.heap.size, .bool n0, .string s0, .int .i64 (e0)), (w.heap.size + 1, .bool n1, .string s1, .int .i64 (e1)), (gx, .bool (!ne), .string T, .int .i64 (X)), (gy, .bool ne, .string T, .int .i64 (X)), (w2.heap.size, .bool np, .string U, .int .i64 (Y))]) hHeld hb
          clear hHeld
          skip
          clear hb
          go_wp2_with fail
          refine hK.out _ _ hS (fun hHeld => ?_)
          clear hK K hS
          try simp only [Act.put, List.setIfInBounds_toArray, List.set_cons_zero, List.set_cons_succ]
          refine' take_at 30 (v := _) rfl (by kernel_rfl) (by kernel_rfl) (by kernel_rfl) (fun _ _ _ h => h) rfl ?y120 hHeld ?r120
          case y120 =>
            intro w hSw
            try dsimp only at hSw
            go_simp
            try with_reducible rfl
          try simp only [Act.put, List.setIfInBounds_toArray, List.set_cons_zero, List.set_cons_succ]
          refine' take_at 31 (v := _) rfl (by kernel_rfl) (by kernel_rfl) (by kernel_rfl) (fun _ _ _ h => h) rfl ?y121 hHeld ?r121
          case y121 =>
            intro w hSw
            try dsimp only at hSw
            go_simp
            try with_reducible rfl
          try simp only [Act.put, List.setIfInBounds_toArray, List.set_cons_zero, List.set_cons_succ]
          refine' take_at 32 (v := _) rfl (by kernel_rfl) (by kernel_rfl) (by kernel_rfl) (fun _ _ _ h => h) rfl ?y122 hHeld ?r122
          case y122 =>
            intro w hSw
            try dsimp only at hSw
            go_simp
            try with_reducible rfl
          try simp only [Act.put, List.setIfInBounds_toArray, List.set_cons_zero, List.set_cons_succ]
          refine' take_at 33 (v := _) rfl (by kernel_rfl) (by kernel_rfl) (by kernel_rfl) (fun _ _ _ h => h) rfl ?y123 hHeld ?r123
          case y123 =>
            intro w hSw
            try dsimp only at hSw
            go_simp
            try with_reducible rfl
          try simp only [Act.put, List.setIfInBounds_toArray, List.set_cons_zero, List.set_cons_succ]
          refine' take_at 34 (v := _) rfl (by kernel_rfl) (by kernel_rfl) (by kernel_rfl) (fun _ _ _ h => h) rfl ?y124 hHeld ?r124
          case y124 =>
            intro w hSw
            try dsimp only at hSw
            go_simp
            try with_reducible rfl
          try simp only [Act.put, List.setIfInBounds_toArray, List.set_cons_zero, List.set_cons_succ]
          refine' take_at 35 (v := _) rfl (by kernel_rfl) (by kernel_rfl) (by kernel_rfl) (fun _ _ _ h => h) rfl ?y125 hHeld ?r125
          case y125 =>
            intro w hSw
            try dsimp only at hSw
            go_simp
            try with_reducible rfl
          try simp only [Act.put, List.setIfInBounds_toArray, List.set_cons_zero, List.set_cons_succ]
          refine' take_at 36 (v := _) rfl (by kernel_rfl) (by kernel_rfl) (by kernel_rfl) (fun _ _ _ h => h) rfl ?y126 hHeld ?r126
          case y126 =>
            intro w hSw
            try dsimp only at hSw
            go_simp
            try with_reducible rfl
          try simp only [Act.put, List.setIfInBounds_toArray, List.set_cons_zero, List.set_cons_succ]
          refine skip_at 37 rfl (by kernel_rfl) (by kernel_rfl) (by kernel_rfl) (fun _ _ _ h => h) rfl hHeld ?_
          try simp only [Act.put, List.setIfInBounds_toArray, List.set_cons_zero, List.set_cons_succ]
          refine skip_at 38 rfl (by kernel_rfl) (by kernel_rfl) (by kernel_rfl) (fun _ _ _ h => h) rfl hHeld ?_
          try simp only [Act.put, List.setIfInBounds_toArray, List.set_cons_zero, List.set_cons_succ]
          refine skip_at 39 rfl (by kernel_rfl) (by kernel_rfl) (by kernel_rfl) (fun _ _ _ h => h) rfl hHeld ?_
          try simp only [Act.put, List.setIfInBounds_toArray, List.set_cons_zero, List.set_cons_succ]
          refine skip_at 40 rfl (by kernel_rfl) (by kernel_rfl) (by kernel_rfl) (fun _ _ _ h => h) rfl hHeld ?_
          try simp only [Act.put, List.setIfInBounds_toArray, List.set_cons_zero, List.set_cons_succ]
          refine skip_at 41 rfl (by kernel_rfl) (by kernel_rfl) (by kernel_rfl) (fun _ _ _ h => h) rfl hHeld ?_
          try simp only [Act.put, List.setIfInBounds_toArray, List.set_cons_zero, List.set_cons_succ]
          refine skip_at 42 rfl (by kernel_rfl) (by kernel_rfl) (by kernel_rfl) (fun _ _ _ h => h) rfl hHeld ?_
          try simp only [Act.put, List.setIfInBounds_toArray, List.set_cons_zero, List.set_cons_succ]
          refine skip_at 43 rfl (by kernel_rfl) (by kernel_rfl) (by kernel_rfl) (fun _ _ _ h => h) rfl hHeld ?_
          try simp only [Act.put, List.setIfInBounds_toArray, List.set_cons_zero, List.set_cons_succ]
          refine skip_at 44 rfl (by kernel_rfl) (by kernel_rfl) (by kernel_rfl) (fun _ _ _ h => h) rfl hHeld ?_
          try simp only [Act.put, List.setIfInBounds_toArray, List.set_cons_zero, List.set_cons_succ]
          refine' take_at 45 (v := _) rfl (by kernel_rfl) (by kernel_rfl) (by kernel_rfl) (fun _ _ _ h => h) rfl ?y135 hHeld ?r135
          case y135 =>
            intro w hSw
            try dsimp only at hSw
            go_simp
            try with_reducible rfl
          try simp only [Act.put, List.setIfInBounds_toArray, List.set_cons_zero, List.set_cons_succ]
          refine' take_at 46 (v := _) rfl (by kernel_rfl) (by kernel_rfl) (by kernel_rfl) (fun _ _ _ h => h) rfl ?y136 hHeld ?r136
          case y136 =>
            intro w hSw
            try dsimp only at hSw
            go_simp
            try with_reducible rfl
          try simp only [Act.put, List.setIfInBounds_toArray, List.set_cons_zero, List.set_cons_succ]
          refine' take_at 47 (v := _) rfl (by kernel_rfl) (by kernel_rfl) (by kernel_rfl) (fun _ _ _ h => h) rfl ?y137 hHeld ?r137
          case y137 =>
            intro w hSw
            try dsimp only at hSw
            go_simp
            try with_reducible rfl
          try simp only [Act.put, List.setIfInBounds_toArray, List.set_cons_zero, List.set_cons_succ]
          refine' take_at 48 (v := _) rfl (by kernel_rfl) (by kernel_rfl) (by kernel_rfl) (fun _ _ _ h => h) rfl ?y138 hHeld ?r138
          case y138 =>
            intro w hSw
            try dsimp only at hSw
            go_simp
            try with_reducible rfl
          try simp only [Act.put, List.setIfInBounds_toArray, List.set_cons_zero, List.set_cons_succ]
          refine' take_at 50 (v := _) rfl (by kernel_rfl) (by kernel_rfl) (by kernel_rfl) (fun _ _ _ h => h) rfl ?y139 hHeld ?r139
          case y139 =>
            intro w hSw
            try dsimp only at hSw
            go_simp
            try with_reducible rfl
          try simp only [Act.put, List.setIfInBounds_toArray, List.set_cons_zero, List.set_cons_succ]
          refine' take_at 53 (v := _) rfl (by kernel_rfl) (by kernel_rfl) (by kernel_rfl) (fun _ _ _ h => h) rfl ?y140 hHeld ?r140
          case y140 =>
            intro w hSw
            try dsimp only at hSw
            go_simp
            try with_reducible rfl
          try simp only [Act.put, List.setIfInBounds_toArray, List.set_cons_zero, List.set_cons_succ]
          refine step_at 49 (by kernel_rfl) rfl rfl (fun K hK => ?_)
          go_simp
          refine (HS.out.abs0 _ (Sd.pw (w0 := w) (L := [(w.heap.size, .bool n0, .string s0, .int .i64 (e0)), (w.heap.size + 1, .bool n1, .string s1, .int .i64 (e1)), (gx, .bool (!ne), .string T, .int .i64 (X)), (gy, .bool ne, .string T, .int .i64 (X)), (w2.heap.size, .bool np, .string U, .int .i64 (Y))]) hHeld)).mono ?_
          rintro r w1 ⟨rfl, hb⟩
          have hS := Sd.keep (w0 := w) (L := [(w.heap.size, .bool n0, .string s0, .int .i64 (e0)), (w.heap.size + 1, .bool n1, .string s1, .int .i64 (e1)), (gx, .bool (!ne), .string T, .int .i64 (X)), (gy, .bool ne, .string T, .int .i64 (X)), (w2.heap.size, .bool np, .string U, .int .i64 (Y))]) hHeld hb
          clear hHeld
          skip
          clear hb
          go_wp2_with fail
          refine hK.out _ _ hS (fun hHeld => ?_)
          clear hK K hS
          try simp only [Act.put, List.setIfInBounds_toArray, List.set_cons_zero, List.set_cons_succ]
          refine step_at 51 (by kernel_rfl) rfl rfl (fun K hK => ?_)
          go_simp
          refine (HS.out.abs1 _ (Sd.pw (w0 := w) (L := [(w.heap.size, .bool n0, .string s0, .int .i64 (e0)), (w.heap.size + 1, .bool n1, .string s1, .int .i64 (e1)), (gx, .bool (!ne), .string T, .int .i64 (X)), (gy, .bool ne, .string T, .int .i64 (X)), (w2.heap.size, .bool np, .string U, .int .i64 (Y))]) hHeld)).mono ?_
          rintro r w1 ⟨rfl, hb⟩
          have hS := Sd.keep (w0 := w) (L := [(w.heap.size, .bool n0, .string s0, .int .i64 (e0)), (w.heap.size + 1, .bool n1, .string s1, .int .i64 (e1)), (gx, .bool (!ne), .string T, .int .i64 (X)), (gy, .bool ne, .string T, .int .i64 (X)), (w2.heap.size, .bool np, .string U, .int .i64 (Y))]) hHeld hb
          clear hHeld
          skip
          clear hb
          go_wp2_with fail
          refine hK.out _ _ hS (fun hHeld => ?_)
          clear hK K hS
          try simp only [Act.put, List.setIfInBounds_toArray, List.set_cons_zero, List.set_cons_succ]
          refine step_at 52 (by kernel_rfl) rfl rfl (fun K hK => ?_)
          go_simp
          refine (HS.out.mul2 _ (Sd.pw (w0 := w) (L := [(w.heap.size, .bool n0, .string s0, .int .i64 (e0)), (w.heap.size + 1, .bool n1, .string s1, .int .i64 (e1)), (gx, .bool (!ne), .string T, .int .i64 (X)), (gy, .bool ne, .string T, .int .i64 (X)), (w2.heap.size, .bool np, .string U, .int .i64 (Y))]) hHeld)).mono ?_
          rintro r w1 ⟨rfl, hb⟩
          have hS := Sd.keep (w0 := w) (L := [(w.heap.size, .bool n0, .string s0, .int .i64 (e0)), (w.heap.size + 1, .bool n1, .string s1, .int .i64 (e1)), (gx, .bool (!ne), .string T, .int .i64 (X)), (gy, .bool ne, .string T, .int .i64 (X)), (w2.heap.size, .bool np, .string U, .int .i64 (Y))]) hHeld hb
          clear hHeld
          skip
          clear hb
          go_wp2_with fail
          refine hK.out _ _ hS (fun hHeld => ?_)
          clear hK K hS
          try simp only [Act.put, List.setIfInBounds_toArray, List.set_cons_zero, List.set_cons_succ]
          refine step_at 54 (by kernel_rfl) rfl rfl (fun K hK => ?_)
          go_simp
          refine (HS.out.absP _ (Sd.pw (w0 := w) (L := [(w.heap.size, .bool n0, .string s0, .int .i64 (e0)), (w.heap.size + 1, .bool n1, .string s1, .int .i64 (e1)), (gx, .bool (!ne), .string T, .int .i64 (X)), (gy, .bool ne, .string T, .int .i64 (X)), (w2.heap.size, .bool np, .string U, .int .i64 (Y))]) hHeld)).mono ?_
          rintro r w1 ⟨rfl, hb⟩
          have hS := Sd.keep (w0 := w) (L := [(w.heap.size, .bool n0, .string s0, .int .i64 (e0)), (w.heap.size + 1, .bool n1, .string s1, .int .i64 (e1)), (gx, .bool (!ne), .string T, .int .i64 (X)), (gy, .bool ne, .string T, .int .i64 (X)), (w2.heap.size, .bool np, .string U, .int .i64 (Y))]) hHeld hb
          clear hHeld
          skip
          clear hb
          go_wp2_with fail
          refine hK.out _ _ hS (fun hHeld => ?_)
          clear hK K hS
          try simp only [Act.put, List.setIfInBounds_toArray, List.set_cons_zero, List.set_cons_succ]
          refine' take_at 55 (v := _) rfl (by kernel_rfl) (by kernel_rfl) (by kernel_rfl) (fun _ _ _ h => h) rfl ?y141 hHeld ?r141
          case y141 =>
            intro w hSw
            try dsimp only at hSw
            go_simp
            try with_reducible rfl
          try simp only [Act.put, List.setIfInBounds_toArray, List.set_cons_zero, List.set_cons_succ]
          refine' take_at 56 (v := _) rfl (by kernel_rfl) (by kernel_rfl) (by kernel_rfl) (fun _ _ _ h => h) rfl ?y142 hHeld ?r142
          case y142 =>
            intro w hSw
            try dsimp only at hSw
            go_simp
            try with_reducible rfl
          try simp only [Act.put, List.setIfInBounds_toArray, List.set_cons_zero, List.set_cons_succ]
          refine' take_at 57 (v := _) rfl (by kernel_rfl) (by kernel_rfl) (by kernel_rfl) (fun _ _ _ h => h) rfl ?y143 hHeld ?r143
          case y143 =>
            intro w hSw
            try dsimp only at hSw
            go_simp
            try with_reducible rfl
          try simp only [Act.put, List.setIfInBounds_toArray, List.set_cons_zero, List.set_cons_succ]
          refine wpAnyH_done (by kernel_rfl) ?_ _
          have HB := Lib.hid (Sd.bel (w0 := w) (L := [(w.heap.size, .bool n0, .string s0, .int .i64 (e0)), (w.heap.size + 1, .bool n1, .string s1, .int .i64 (e1)), (gx, .bool (!ne), .string T, .int .i64 (X)), (gy, .bool ne, .string T, .int .i64 (X)), (w2.heap.size, .bool np, .string U, .int .i64 (Y))]) hHeld)
          clear hHeld
          go_wp2
          go_ret
          exact ⟨rfl, HB.out⟩
        · obtain ⟨hT, rfl⟩ := hd
          obtain ⟨hU, hq0⟩ := hp
          have hq : (!(n0 == n1)) = np := hq0.symm
          clear hq0
          go_wp2_with fail
          refine wp_region_held_drew (S := (fun w' => ((w'.cell? ⟨w.heap.size, 0, none⟩ = some (.bool n0) ∧ w'.cell? ⟨w.heap.size, 1, none⟩ = some (.string s0) ∧ w'.cell? ⟨w.heap.size, 2, none⟩ = some (.int .i64 (e0))) ∧ (w'.cell? ⟨w.heap.size + 1, 0, none⟩ = some (.bool n1) ∧ w'.cell? ⟨w.heap.size + 1, 1, none⟩ = some (.string s1) ∧ w'.cell? ⟨w.heap.size + 1, 2, none⟩ = some (.int .i64 (e1))) ∧ (w'.cell? ⟨gx, 0, none⟩ = some (.bool (!ne)) ∧ w'.cell? ⟨gx, 1, none⟩ = some (.string T) ∧ w'.cell? ⟨gx, 2, none⟩ = some (.int .i64 (X))) ∧ (w'.cell? ⟨gy, 0, none⟩ = some (.bool ne) ∧ w'.cell? ⟨gy, 1, none⟩ = some (.string T) ∧ w'.cell? ⟨gy, 2, none⟩ = some (.int .i64 (X))) ∧ (w'.cell? ⟨w2.heap.size, 0, none⟩ = some (.bool np) ∧ w'.cell? ⟨w2.heap.size, 1, none⟩ = some (.string U) ∧ w'.cell? ⟨w2.heap.size, 2, none⟩ = some (.int .i64 (Y))) ∧ True) ∧ Hid (Kept3 w [(w.heap.size, .bool n0, .string s0, .int .i64 (e0)), (w.heap.size + 1, .bool n1, .string s1, .int .i64 (e1)), (gx, .bool (!ne), .string T, .int .i64 (X)), (gy, .bool ne, .string T, .int .i64 (X)), (w2.heap.size, .bool np, .string U, .int .i64 (Y))] w'))) (by kernel_rfl) (Sd.of HK.out.drew) (fun hHeld => ?_)
          refine step_at 0 (by kernel_rfl) rfl rfl (fun K hK => ?_)
          go_simp
          refine (answers06_c _ (Sd.pw (w0 := w) (L := [(w.heap.size, .bool n0, .string s0, .int .i64 (e0)), (w.heap.size + 1, .bool n1, .string s1, .int .i64 (e1)), (gx, .bool (!ne), .string T, .int .i64 (X)), (gy, .bool ne, .string T, .int .i64 (X)), (w2.heap.size, .bool np, .string U, .int .i64 (Y))]) hHeld)).mono ?_
          rintro r w1 ⟨rfl, hb⟩
          have hS := Sd.keep (w0 := w) (L := [(w.heap.size, .bool n0, .string s0, .int .i64 (e0)), (w.heap.size + 1, .bool n1, .string s1, .int .i64 (e1)), (gx, .bool (!ne), .string T, .int .i64 (X)), (gy, .bool ne, .string T, .int .i64 (X)), (w2.heap.size, .bool np, .string U, .int .i64 (Y))]) hHeld hb
          clear hHeld
          skip
          clear hb
          go_wp2_with fail
          refine hK.out _ _ hS (fun hHeld => ?_)
          clear hK K hS
          try simp only [Act.put, List.setIfInBounds_toArray, List.set_cons_zero, List.set_cons_succ]
          refine' take_at 1 (v := _) rfl (by kernel_rfl) (by kernel_rfl) (by kernel_rfl) (fun _ _ _ h => h) rfl ?y144 hHeld ?r144
          case y144 =>
            intro w hSw
            try dsimp only at hSw
            go_simp
            try with_reducible rfl
          try simp only [Act.put, List.setIfInBounds_toArray, List.set_cons_zero, List.set_cons_succ]
          refine' take_at 2 (v := _) rfl (by kernel_rfl) (by kernel_rfl) (by kernel_rfl) (fun _ _ _ h => h) rfl ?y145 hHeld ?r145
          case y145 =>
            intro w hSw
            try dsimp only at hSw
            go_simp
            try with_reducible rfl
          try simp only [Act.put, List.setIfInBounds_toArray, List.set_cons_zero, List.set_cons_succ]
          refine' take_at 5 (v := _) rfl (by kernel_rfl) (by kernel_rfl) (by kernel_rfl) (fun _ _ _ h => h) rfl ?y146 hHeld ?r146
          case y146 =>
            intro w hSw
            try dsimp only at hSw
            go_simp
            try with_reducible rfl
          try simp only [Act.put, List.setIfInBounds_toArray, List.set_cons_zero, List.set_cons_succ]
          refine step_at 3 (by kernel_rfl) rfl rfl (fun K hK => ?_)
          go_simp
          refine (HS.out.neg1 _ (Sd.pw (w0 := w) (L := [(w.heap.size, .bool n0, .string s0, .int .i64 (e0)), (w.heap.size + 1, .bool n1, .string s1, .int .i64 (e1)), (gx, .bool (!ne), .string T, .int .i64 (X)), (gy, .bool ne, .string T, .int .i64 (X)), (w2.heap.size, .bool np, .string U, .int .i64 (Y))]) hHeld)).mono ?_
          rintro r w1 ⟨rfl, hb⟩
          have hS := Sd.keep (w0 := w) (L := [(w.heap.size, .bool n0, .string s0, .int .i64 (e0)), (w.heap.size + 1, .bool n1, .string s1, .int .i64 (e1)), (gx, .bool (!ne), .string T, .int .i64 (X)), (gy, .bool ne, .string T, .int .i64 (X)), (w2.heap.size, .bool np, .string U, .int .i64 (Y))]) hHeld hb
          clear hHeld
          skip
          clear hb
          go_wp2_with fail
          refine hK.out _ _ hS (fun hHeld => ?_)
          clear hK K hS
          try simp only [Act.put, List.setIfInBounds_toArray, List.set_cons_zero, List.set_cons_succ]
          refine step_at 4 (by kernel_rfl) rfl rfl (fun K hK => ?_)
          go_simp
          refine (HS.out.neg2 _ (Sd.pw (w0 := w) (L := [(w.heap.size, .bool n0, .string s0, .int .i64 (e0)), (w.heap.size + 1, .bool n1, .string s1, .int .i64 (e1)), (gx, .bool (!ne), .string T, .int .i64 (X)), (gy, .bool ne, .string T, .int .i64 (X)), (w2.heap.size, .bool np, .string U, .int .i64 (Y))]) hHeld)).mono ?_
          rintro r w1 ⟨rfl, hb⟩
          have hS := Sd.keep (w0 := w) (L := [(w.heap.size, .bool n0, .string s0, .int .i64 (e0)), (w.heap.size + 1, .bool n1, .string s1, .int .i64 (e1)), (gx, .bool (!ne), .string T, .int .i64 (X)), (gy, .bool ne, .string T, .int .i64 (X)), (w2.heap.size, .bool np, .string U, .int .i64 (Y))]) hHeld hb
          clear hHeld
          skip
          clear hb
          go_wp2_with fail
          refine hK.out _ _ hS (fun hHeld => ?_)
          clear hK K hS
          try simp only [Act.put, List.setIfInBounds_toArray, List.set_cons_zero, List.set_cons_succ]
          refine step_at 6 (by kernel_rfl) rfl rfl (fun K hK => ?_)
          go_simp
          refine (HS.out.norm _ (Sd.pw (w0 := w) (L := [(w.heap.size, .bool n0, .string s0, .int .i64 (e0)), (w.heap.size + 1, .bool n1, .string s1, .int .i64 (e1)), (gx, .bool (!ne), .string T, .int .i64 (X)), (gy, .bool ne, .string T, .int .i64 (X)), (w2.heap.size, .bool np, .string U, .int .i64 (Y))]) hHeld)).mono ?_
          rintro r w1 ⟨rfl, hb⟩
          have hS := Sd.keep (w0 := w) (L := [(w.heap.size, .bool n0, .string s0, .int .i64 (e0)), (w.heap.size + 1, .bool n1, .string s1, .int .i64 (e1)), (gx, .bool (!ne), .string T, .int .i64 (X)), (gy, .bool ne, .string T, .int .i64 (X)), (w2.heap.size, .bool np, .string U, .int .i64 (Y))]) hHeld hb
          clear hHeld
          skip
          clear hb
          go_wp2_with fail
          refine hK.out _ _ hS (fun hHeld => ?_)
          clear hK K hS
          try simp only [Act.put, List.setIfInBounds_toArray, List.set_cons_zero, List.set_cons_succ]
          refine' take_at 7 (v := _) rfl (by kernel_rfl) (by kernel_rfl) (by kernel_rfl) (fun _ _ _ h => h) rfl ?y147 hHeld ?r147
          case y147 =>
            intro w hSw
            try dsimp only at hSw
            go_simp
            try with_reducible rfl
          try simp only [Act.put, List.setIfInBounds_toArray, List.set_cons_zero, List.set_cons_succ]
          refine' take_at 8 (v := _) rfl (by kernel_rfl) (by kernel_rfl) (by kernel_rfl) (fun _ _ _ h => h) rfl ?y148 hHeld ?r148
          case y148 =>
            intro w hSw
            try dsimp only at hSw
            go_simp
            try with_reducible rfl
          try simp only [Act.put, List.setIfInBounds_toArray, List.set_cons_zero, List.set_cons_succ]
          refine' take_at 9 (v := _) rfl (by kernel_rfl) (by kernel_rfl) (by kernel_rfl) (fun _ _ _ h => h) rfl ?y149 hHeld ?r149
          case y149 =>
            intro w hSw
            try dsimp only at hSw
            go_simp
            try with_reducible rfl
          try simp only [Act.put, List.setIfInBounds_toArray, List.set_cons_zero, List.set_cons_succ]
          refine' take_at 10 (v := _) rfl (by kernel_rfl) (by kernel_rfl) (by kernel_rfl) (fun _ _ _ h => h) rfl ?y150 hHeld ?r150
          case y150 =>
            intro w hSw
            try dsimp only at hSw
            go_simp
            try with_reducible rfl
          try simp only [Act.put, List.setIfInBounds_toArray, List.set_cons_zero, List.set_cons_succ]
          refine' take_at 11 (v := _) rfl (by kernel_rfl) (by kernel_rfl) (by kernel_rfl) (fun _ _ _ h => h) rfl ?y151 hHeld ?r151
          case y151 =>
            intro w hSw
            try dsimp only at hSw
            go_simp
            try with_reducible rfl
          try simp only [Act.put, List.setIfInBounds_toArray, List.set_cons_zero, List.set_cons_succ]
          refine' take_at 12 (v := _) rfl (by kernel_rfl) (by kernel_rfl) (by kernel_rfl) (fun _ _ _ h => h) rfl ?y152 hHeld ?r152
          case y152 =>
            intro w hSw
            try dsimp only at hSw
            go_simp
            try with_reducible rfl
          try simp only [Act.put, List.setIfInBounds_toArray, List.set_cons_zero, List.set_cons_succ]
          refine' take_at 13 (v := _) rfl (by kernel_rfl) (by kernel_rfl) (by kernel_rfl) (fun _ _ _ h => h) rfl ?y153 hHeld ?r153
          case y153 =>
            intro w hSw
            try dsimp only at hSw
            go_simp
            try with_reducible rfl
          try simp only [Act.put, List.setIfInBounds_toArray, List.set_cons_zero, List.set_cons_succ]
          refine skip_at 14 rfl (by kernel_rfl) (by kernel_rfl) (by kernel_rfl) (fun _ _ _ h => h) rfl hHeld ?_
          try simp only [Act.put, List.setIfInBounds_toArray, List.set_cons_zero, List.set_cons_succ]
          refine skip_at 15 rfl (by kernel_rfl) (by kernel_rfl) (by kernel_rfl) (fun _ _ _ h => h) rfl hHeld ?_
          try simp only [Act.put, List.setIfInBounds_toArray, List.set_cons_zero, List.set_cons_succ]
          refine skip_at 16 rfl (by kernel_rfl) (by kernel_rfl) (by kernel_rfl) (fun _ _ _ h => h) rfl hHeld ?_
          try simp only [Act.put, List.setIfInBounds_toArray, List.set_cons_zero, List.set_cons_succ]
          refine' take_at 17 (v := _) rfl (by kernel_rfl) (by kernel_rfl) (by kernel_rfl) (fun _ _ _ h => h) rfl ?y157 hHeld ?r157
          case y157 =>
            intro w hSw
            try dsimp only at hSw
            go_simp
            try with_reducible rfl
          try simp only [Act.put, List.setIfInBounds_toArray, List.set_cons_zero, List.set_cons_succ]
          refine' take_at 18 (v := _) rfl (by kernel_rfl) (by kernel_rfl) (by kernel_rfl) (fun _ _ _ h => h) rfl ?y158 hHeld ?r158
          case y158 =>
            intro w hSw
            try dsimp only at hSw
            go_simp
            try with_reducible rfl
          try simp only [Act.put, List.setIfInBounds_toArray, List.set_cons_zero, List.set_cons_succ]
          refine' take_at 19 (v := _) rfl (by kernel_rfl) (by kernel_rfl) (by kernel_rfl) (fun _ _ _ h => h) rfl ?y159 hHeld ?r159
          case y159 =>
            intro w hSw
            try dsimp only at hSw
            go_simp
            try with_reducible rfl
          try simp only [Act.put, List.setIfInBounds_toArray, List.set_cons_zero, List.set_cons_succ]
          refine' take_at 20 (v := _) rfl (by kernel_rfl) (by kernel_rfl) (by kernel_rfl) (fun _ _ _ h => h) rfl ?y160 hHeld ?r160
          case y160 =>
            intro w hSw
            try dsimp only at hSw
            go_simp
            try with_reducible rfl
          try simp only [Act.put, List.setIfInBounds_toArray, List.set_cons_zero, List.set_cons_succ]
          refine step_at 21 (by kernel_rfl) rfl rfl (fun K hK => ?_)
          go_simp
          refine (HS.out.negE _ (Sd.pw (w0 := w) (L := [(w.heap.size, .bool n0, .string s0, .int .i64 (e0)), (w.heap.size + 1, .bool n1, .string s1, .int .i64 (e1)), (gx, .bool (!ne), .string T, .int .i64 (X)), (gy, .bool ne, .string T, .int .i64 (X)), (w2.heap.size, .bool np, .string U, .int .i64 (Y))]) hHeld)).mono ?_
          rintro r w1 ⟨rfl, hb⟩
          have hS := Sd.keep (w0 := w) (L := [(w.heap.size, .bool n0, .string s0, .int .i64 (e0)), (w.heap.size + 1, .bool n1, .string s1, .int .i64 (e1)), (gx, .bool (!ne), .string T, .int .i64 (X)), (gy, .bool ne, .string T, .int .i64 (X)), (w2.heap.size, .bool np, .string U, .int .i64 (Y))]) hHeld hb
          clear hHeld
          skip
          clear hb
          go_wp2_with fail
          refine hK.out _ _ hS (fun hHeld => ?_)
          clear hK K hS
          try simp only [Act.put, List.setIfInBounds_toArray, List.set_cons_zero, List.set_cons_succ]
          refine' take_at 22 (v := _) rfl (by kernel_rfl) (by kernel_rfl) (by kernel_rfl) (fun _ _ _ h => h) rfl ?y161 hHeld ?r161
          case y161 =>
            intro w hSw
            try dsimp only at hSw
            go_simp
            try with_reducible rfl
          try simp only [Act.put, List.setIfInBounds_toArray, List.set_cons_zero, List.set_cons_succ]
          refine' take_at 23 (v := _) rfl (by kernel_rfl) (by kernel_rfl) (by kernel_rfl) (fun _ _ _ h => h) rfl ?y162 hHeld ?r162
          case y162 =>
            intro w hSw
            try dsimp only at hSw
            go_simp
            try with_reducible rfl
          try simp only [Act.put, List.setIfInBounds_toArray, List.set_cons_zero, List.set_cons_succ]
          refine' take_at 24 (v := _) rfl (by kernel_rfl) (by kernel_rfl) (by kernel_rfl) (fun _ _ _ h => h) rfl ?y163 hHeld ?r163
          case y163 =>
            intro w hSw
            try dsimp only at hSw
            go_simp
            try with_reducible rfl
          try simp only [Act.put, List.setIfInBounds_toArray, List.set_cons_zero, List.set_cons_succ]
          refine' take_at 25 (v := _) rfl (by kernel_rfl) (by kernel_rfl) (by kernel_rfl) (fun _ _ _ h => h) rfl ?y164 hHeld ?r164
          case y164 =>
            intro w hSw
            try dsimp only at hSw
            go_simp
            try with_reducible rfl
          try simp only [Act.put, List.setIfInBounds_toArray, List.set_cons_zero, List.set_cons_succ]
          refine' take_at 26 (v := _) rfl (by kernel_rfl) (by kernel_rfl) (by kernel_rfl) (fun _ _ _ h => h) rfl ?y165 hHeld ?r165
          case y165 =>
            intro w hSw
            try dsimp only at hSw
            go_simp
            try with_reducible rfl
          try simp only [Act.put, List.setIfInBounds_toArray, List.set_cons_zero, List.set_cons_succ]
          refine' take_at 28 (v := _) rfl (by kernel_rfl) (by kernel_rfl) (by kernel_rfl) (fun _ _ _ h => h) rfl ?y166 hHeld ?r166
          case y166 =>
            intro w hSw
            try dsimp only at hSw
            go_simp
            try with_reducible rfl
          try simp only [Act.put, List.setIfInBounds_toArray, List.set_cons_zero, List.set_cons_succ]
          refine step_at 27 (by kernel_rfl) rfl rfl (fun K hK => ?_)
          go_simp
          refine (HS.out.absD _ (Sd.pw (w0 := w) (L := [(w.heap.size, .bool n0, .string s0, .int .i64 (e0)), (w.heap.size + 1, .bool n1, .string s1, .int .i64 (e1)), (gx, .bool (!ne), .string T, .int .i64 (X)), (gy, .bool ne, .string T, .int .i64 (X)), (w2.heap.size, .bool np, .string U, .int .i64 (Y))]) hHeld)).mono ?_
          rintro r w1 ⟨rfl, hb⟩
          have hS := Sd.keep (w0 := w) (L := [(w.heap.size, .bool n0, .string s0, .int .i64 (e0)), (w.heap.size + 1, .bool n1, .string s1, .int .i64 (e1)), (gx, .bool (!ne), .string T, .int .i64 (X)), (gy, .bool ne, .string T, .int .i64 (X)), (w2.heap.size, .bool np, .string U, .int .i64 (Y))]) hHeld hb
          clear hHeld
          skip
          clear hb
          go_wp2_with fail
          refine hK.out _ _ hS (fun hHeld => ?_)
          clear hK K hS
          try simp only [Act.put, List.setIfInBounds_toArray, List.set_cons_zero, List.set_cons_succ]
          refine step_at 29 (by kernel_rfl) rfl rfl (fun K hK => ?_)
          go_simp
          refine (HS.out.absE _ (Sd.pw (w0 := w) (L := [(w.heap.size, .bool n0, .string s0, .int .i64 (e0)), (w.heap.size + 1, .bool n1, .string s1, .int .i64 (e1)), (gx, .bool (!ne), .string T, .int .i64 (X)), (gy, .bool ne, .string T, .int .i64 (X)), (w2.heap.size, .bool np, .string U, .int .i64 (Y))]) hHeld)).mono ?_
          rintro r w1 ⟨rfl, hb⟩
          have hS := Sd.keep (w0 := w) (L := [(w.heap.size, .bool n0, .string s0, .int .i64 (e0)), (w.heap.size + 1, .bool n1, .string s1, .int .i64 (e1)), (gx, .bool (!ne), .string T, .int .i64 (X)), (gy, .bool ne, .string T, .int .i64 (X)), (w2.heap.size, .bool np, .string U, .int .i64 (Y))]) hHeld hb
          clear hHeld
          skip
          clear hb
          go_wp2_with fail
          refine hK.out _ _ hS (fun hHeld => ?_)
          clear hK K hS
          try simp only [Act.put, List.setIfInBounds_toArray, List.set_cons_zero, List.set_cons_succ]
          refine' take_at 30 (v := _) rfl (by kernel_rfl) (by kernel_rfl) (by kernel_rfl) (fun _ _ _ h => h) rfl ?y167 hHeld ?r167
          case y167 =>
            intro w hSw
            try dsimp only at hSw
            go_simp
            try with_reducible rfl
          try simp only [Act.put, List.setIfInBounds_toArray, List.set_cons_zero, List.set_cons_succ]
          refine' take_at 31 (v := _) rfl (by kernel_rfl) (by kernel_rfl) (by kernel_rfl) (fun _ _ _ h => h) rfl ?y168 hHeld ?r168
          case y168 =>
            intro w hSw
            try dsimp only at hSw
            go_simp
            try with_reducible rfl
          try simp only [Act.put, List.setIfInBounds_toArray, List.set_cons_zero, List.set_cons_succ]
          refine' take_at 32 (v := _) rfl (by kernel_rfl) (by kernel_rfl) (by kernel_rfl) (fun _ _ _ h => h) rfl ?y169 hHeld ?r169
          case y169 =>
            intro w hSw
            try dsimp only at hSw
            go_simp
            try with_reducible rfl
          try simp only [Act.put, List.setIfInBounds_toArray, List.set_cons_zero, List.set_cons_succ]
          refine' take_at 33 (v := _) rfl (by kernel_rfl) (by kernel_rfl) (by kernel_rfl) (fun _ _ _ h => h) rfl ?y170 hHeld ?r170
          case y170 =>
            intro w hSw
            try dsimp only at hSw
            go_simp
            try with_reducible rfl
          try simp only [Act.put, List.setIfInBounds_toArray, List.set_cons_zero, List.set_cons_succ]
          refine' take_at 34 (v := _) rfl (by kernel_rfl) (by kernel_rfl) (by kernel_rfl) (fun _ _ _ h => h) rfl ?y171 hHeld ?r171
          case y171 =>
            intro w hSw
            try dsimp only at hSw
            go_simp
            try with_reducible rfl
          try simp only [Act.put, List.setIfInBounds_toArray, List.set_cons_zero, List.set_cons_succ]
          refine' take_at 35 (v := _) rfl (by kernel_rfl) (by kernel_rfl) (by kernel_rfl) (fun _ _ _ h => h) rfl ?y172 hHeld ?r172
          case y172 =>
            intro w hSw
            try dsimp only at hSw
            go_simp
            try with_reducible rfl
          try simp only [Act.put, List.setIfInBounds_toArray, List.set_cons_zero, List.set_cons_succ]
          refine' take_at 36 (v := _) rfl (by kernel_rfl) (by kernel_rfl) (by kernel_rfl) (fun _ _ _ h => h) rfl ?y173 hHeld ?r173
          case y173 =>
            intro w hSw
            try dsimp only at hSw
            go_simp
            try with_reducible rfl
          try simp only [Act.put, List.setIfInBounds_toArray, List.set_cons_zero, List.set_cons_succ]
          refine' take_at 37 (v := _) rfl (by kernel_rfl) (by kernel_rfl) (by kernel_rfl) (fun _ _ _ h => h) rfl ?y174 hHeld ?r174
          case y174 =>
            intro w hSw
            try dsimp only at hSw
            go_simp
            try with_reducible rfl
          try simp only [Act.put, List.setIfInBounds_toArray, List.set_cons_zero, List.set_cons_succ]
          refine' take_at 38 (v := _) rfl (by kernel_rfl) (by kernel_rfl) (by kernel_rfl) (fun _ _ _ h => h) rfl ?y175 hHeld ?r175
          case y175 =>
            intro w hSw
            try dsimp only at hSw
            go_simp
            try with_reducible rfl
          try simp only [Act.put, List.setIfInBounds_toArray, List.set_cons_zero, List.set_cons_succ]
          refine' take_at 39 (v := _) rfl (by kernel_rfl) (by kernel_rfl) (by kernel_rfl) (fun _ _ _ h => h) rfl ?y176 hHeld ?r176
          case y176 =>
            intro w hSw
            try dsimp only at hSw
            go_simp
            try with_reducible rfl
          try simp only [Act.put, List.setIfInBounds_toArray, List.set_cons_zero, List.set_cons_succ]
          refine' take_at 40 (v := _) rfl (by kernel_rfl) (by kernel_rfl) (by kernel_rfl) (fun _ _ _ h => h) rfl ?y177 hHeld ?r177
          case y177 =>
            intro w hSw
            try dsimp only at hSw
            go_simp
            try with_reducible rfl
          try simp only [Act.put, List.setIfInBounds_toArray, List.set_cons_zero, List.set_cons_succ]
          refine' take_at 41 (v := _) rfl (by kernel_rfl) (by kernel_rfl) (by kernel_rfl) (fun _ _ _ h => h) rfl ?y178 hHeld ?r178
          case y178 =>
            intro w hSw
            try dsimp only at hSw
            go_simp
            try with_reducible rfl
          try simp only [Act.put, List.setIfInBounds_toArray, List.set_cons_zero, List.set_cons_succ]
          refine' take_at 42 (v := _) rfl (by kernel_rfl) (by kernel_rfl) (by kernel_rfl) (fun _ _ _ h => h) rfl ?y179 hHeld ?r179
          case y179 =>
            intro w hSw
            try dsimp only at hSw
            go_simp
            try with_reducible rfl
          try simp only [Act.put, List.setIfInBounds_toArray, List.set_cons_zero, List.set_cons_succ]
          refine' take_at 43 (v := _) rfl (by kernel_rfl) (by kernel_rfl) (by kernel_rfl) (fun _ _ _ h => h) rfl ?y180 hHeld ?r180
          case y180 =>
            intro w hSw
            try dsimp only at hSw
            go_simp
            try with_reducible rfl
          try simp only [Act.put, List.setIfInBounds_toArray, List.set_cons_zero, List.set_cons_succ]
          refine' take_at 44 (v := _) rfl (by kernel_rfl) (by kernel_rfl) (by kernel_rfl) (fun _ _ _ h => h) rfl ?y181 hHeld ?r181
          case y181 =>
            intro w hSw
            try dsimp only at hSw
            go_simp
            try with_reducible rfl
          try simp only [Act.put, List.setIfInBounds_toArray, List.set_cons_zero, List.set_cons_succ]
          refine' take_at 45 (v := _) rfl (by kernel_rfl) (by kernel_rfl) (by kernel_rfl) (fun _ _ _ h => h) rfl ?y182 hHeld ?r182
          case y182 =>
            intro w hSw
            try dsimp only at hSw
            go_simp
            try with_reducible rfl
          try simp only [Act.put, List.setIfInBounds_toArray, List.set_cons_zero, List.set_cons_succ]
          refine' take_at 46 (v := _) rfl (by kernel_rfl) (by kernel_rfl) (by kernel_rfl) (fun _ _ _ h => h) rfl ?y183 hHeld ?r183
          case y183 =>
            intro w hSw
            try dsimp only at hSw
            go_simp
            try with_reducible rfl
          try simp only [Act.put, List.setIfInBounds_toArray, List.set_cons_zero, List.set_cons_succ]
          refine' take_at 47 (v := _) rfl (by kernel_rfl) (by kernel_rfl) (by kernel_rfl) (fun _ _ _ h => h) rfl ?y184 hHeld ?r184
          case y184 =>
            intro w hSw
            try dsimp only at hSw
            go_simp
            try with_reducible rfl
          try simp only [Act.put, List.setIfInBounds_toArray, List.set_cons_zero, List.set_cons_succ]
          refine' take_at 48 (v := _) rfl (by kernel_rfl) (by kernel_rfl) (by kernel_rfl) (fun _ _ _ h => h) rfl ?y185 hHeld ?r185
          case y185 =>
            intro w hSw
            try dsimp only at hSw
            go_simp
            try with_reducible rfl
          try simp only [Act.put, List.setIfInBounds_toArray, List.set_cons_zero, List.set_cons_succ]
          refine' take_at 50 (v := _) rfl (by kernel_rfl) (by kernel_rfl) (by kernel_rfl) (fun _ _ _ h => h) rfl ?y186 hHeld ?r186
          case y186 =>
            intro w hSw
            try dsimp only at hSw
            go_simp
            try with_reducible rfl
          try simp only [Act.put, List.setIfInBounds_toArray, List.set_cons_zero, List.set_cons_succ]
          refine' take_at 53 (v := _) rfl (by kernel_rfl) (by kernel_rfl) (by kernel_rfl) (fun _ _ _ h => h) rfl ?y187 hHeld ?r187
          case y187 =>
            intro w hSw
            try dsimp only at hSw
            go_simp
            try with_reducible rfl
          try simp only [Act.put, List.setIfInBounds_toArray, List.set_cons_zero, List.set_cons_succ]
          refine step_at 49 (by kernel_rfl) rfl rfl (fun K hK => ?_)
          go_simp
          refine (HS.out.abs0 _ (Sd.pw (w0 := w) (L := [(w.heap.size, .bool n0, .string s0, .int .i64 (e0)), (w.heap.size + 1, .bool n1, .string s1, .int .i64 (e1)), (gx, .bool (!ne), .string T, .int .i64 (X)), (gy, .bool ne, .string T, .int .i64 (X)), (w2.heap.size, .bool np, .string U, .int .i64 (Y))]) hHeld)).mono ?_
          rintro r w1 ⟨rfl, hb⟩
          have hS := Sd.keep (w0 := w) (L := [(w.heap.size, .bool n0, .string s0, .int .i64 (e0)), (w.heap.size + 1, .bool n1, .string s1, .int .i64 (e1)), (gx, .bool (!ne), .string T, .int .i64 (X)), (gy, .bool ne, .string T, .int .i64 (X)), (w2.heap.size, .bool np, .string U, .int .i64 (Y))]) hHeld hb
          clear hHeld
          skip
          clear hb
          go_wp2_with fail
          refine hK.out _ _ hS (fun hHeld => ?_)
          clear hK K hS
          try simp only [Act.put, List.setIfInBounds_toArray, List.set_cons_zero, List.set_cons_succ]
          refine step_at 51 (by kernel_rfl) rfl rfl (fun K hK => ?_)
          go_simp
          refine (HS.out.abs1 _ (Sd.pw (w0 := w) (L := [(w.heap.size, .bool n0, .string s0, .int .i64 (e0)), (w.heap.size + 1, .bool n1, .string s1, .int .i64 (e1)), (gx, .bool (!ne), .string T, .int .i64 (X)), (gy, .bool ne, .string T, .int .i64 (X)), (w2.heap.size, .bool np, .string U, .int .i64 (Y))]) hHeld)).mono ?_
          rintro r w1 ⟨rfl, hb⟩
          have hS := Sd.keep (w0 := w) (L := [(w.heap.size, .bool n0, .string s0, .int .i64 (e0)), (w.heap.size + 1, .bool n1, .string s1, .int .i64 (e1)), (gx, .bool (!ne), .string T, .int .i64 (X)), (gy, .bool ne, .string T, .int .i64 (X)), (w2.heap.size, .bool np, .string U, .int .i64 (Y))]) hHeld hb
          clear hHeld
          skip
          clear hb
          go_wp2_with fail
          refine hK.out _ _ hS (fun hHeld => ?_)
          clear hK K hS
          try simp only [Act.put, List.setIfInBounds_toArray, List.set_cons_zero, List.set_cons_succ]
          refine step_at 52 (by kernel_rfl) rfl rfl (fun K hK => ?_)
          go_simp
          refine (HS.out.mul2 _ (Sd.pw (w0 := w) (L := [(w.heap.size, .bool n0, .string s0, .int .i64 (e0)), (w.heap.size + 1, .bool n1, .string s1, .int .i64 (e1)), (gx, .bool (!ne), .string T, .int .i64 (X)), (gy, .bool ne, .string T, .int .i64 (X)), (w2.heap.size, .bool np, .string U, .int .i64 (Y))]) hHeld)).mono ?_
          rintro r w1 ⟨rfl, hb⟩
          have hS := Sd.keep (w0 := w) (L := [(w.heap.size, .bool n0, .string s0, .int .i64 (e0)), (w.heap.size + 1, .bool n1, .string s1, .int .i64 (e1)), (gx, .bool (!ne), .string T, .int .i64 (X)), (gy, .bool ne, .string T, .int .i64 (X)), (w2.heap.size, .bool np, .string U, .int .i64 (Y))]) hHeld hb
          clear hHeld
          skip
          clear hb
          go_wp2_with fail
          refine hK.out _ _ hS (fun hHeld => ?_)
          clear hK K hS
          try simp only [Act.put, List.setIfInBounds_toArray, List.set_cons_zero, List.set_cons_succ]
          refine step_at 54 (by kernel_rfl) rfl rfl (fun K hK => ?_)
          go_simp
          refine (HS.out.absP _ (Sd.pw (w0 := w) (L := [(w.heap.size, .bool n0, .string s0, .int .i64 (e0)), (w.heap.size + 1, .bool n1, .string s1, .int .i64 (e1)), (gx, .bool (!ne), .string T, .int .i64 (X)), (gy, .bool ne, .string T, .int .i64 (X)), (w2.heap.size, .bool np, .string U, .int .i64 (Y))]) hHeld)).mono ?_
          rintro r w1 ⟨rfl, hb⟩
          have hS := Sd.keep (w0 := w) (L := [(w.heap.size, .bool n0, .string s0, .int .i64 (e0)), (w.heap.size + 1, .bool n1, .string s1, .int .i64 (e1)), (gx, .bool (!ne), .string T, .int .i64 (X)), (gy, .bool ne, .string T, .int .i64 (X)), (w2.heap.size, .bool np, .string U, .int .i64 (Y))]) hHeld hb
          clear hHeld
          skip
          clear hb
          go_wp2_with fail
          refine hK.out _ _ hS (fun hHeld => ?_)
          clear hK K hS
          try simp only [Act.put, List.setIfInBounds_toArray, List.set_cons_zero, List.set_cons_succ]
          refine' take_at 55 (v := _) rfl (by kernel_rfl) (by kernel_rfl) (by kernel_rfl) (fun _ _ _ h => h) rfl ?y188 hHeld ?r188
          case y188 =>
            intro w hSw
            try dsimp only at hSw
            go_simp
            try with_reducible rfl
          try simp only [Act.put, List.setIfInBounds_toArray, List.set_cons_zero, List.set_cons_succ]
          refine' take_at 56 (v := _) rfl (by kernel_rfl) (by kernel_rfl) (by kernel_rfl) (fun _ _ _ h => h) rfl ?y189 hHeld ?r189
          case y189 =>
            intro w hSw
            try dsimp only at hSw
            go_simp
            try with_reducible rfl
          try simp only [Act.put, List.setIfInBounds_toArray, List.set_cons_zero, List.set_cons_succ]
          refine' take_at 57 (v := _) rfl (by kernel_rfl) (by kernel_rfl) (by kernel_rfl) (fun _ _ _ h => h) rfl ?y190 hHeld ?r190
          case y190 =>
            intro w hSw
            try dsimp only at hSw
            go_simp
            try with_reducible rfl
          try simp only [Act.put, List.setIfInBounds_toArray, List.set_cons_zero, List.set_cons_succ]
          refine wpAnyH_done (by kernel_rfl) ?_ _
          have HB := Lib.hid (Sd.bel (w0 := w) (L := [(w.heap.size, .bool n0, .string s0, .int .i64 (e0)), (w.heap.size + 1, .bool n1, .string s1, .int .i64 (e1)), (gx, .bool (!ne), .string T, .int .i64 (X)), (gy, .bool ne, .string T, .int .i64 (X)), (w2.heap.size, .bool np, .string U, .int .i64 (Y))]) hHeld)
          clear hHeld
          go_wp2
          go_ret
          exact ⟨rfl, HB.out⟩

end Go.Proofs.YtbjdledincahkaaDoor
