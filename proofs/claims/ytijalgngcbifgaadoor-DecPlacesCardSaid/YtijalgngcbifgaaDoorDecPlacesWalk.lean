/-
  DecPlaces: the walk.
-/
import Derived.Test.YtijalgngcbifgaaDoorDec8
import Derived.Deep.DeepCutAuto
import Derived.RegionTactic
namespace Go.Proofs.YtijalgngcbifgaaDoor
open Go.RowKit
set_option maxHeartbeats 4000000 in
set_option maxRecDepth 100000 in
theorem walk_decPlaces (n0 : Bool) (s0 : ByteArray) (e0 : Int) (n1 : Bool) (s1 : ByteArray) (e1 : Int) (k2 k3 : Int) (w : World) (h0 : s0.size ≤ maxLen) (h1 : s1.size ≤ maxLen) (h2 : -128 ≤ k2 ∧ k2 ≤ 127) (h3 : -32768 ≤ k3 ∧ k3 ≤ 32767) (hP : Pw w) :
    Calls Tryd.prog 9 #[.agg #[.bool n0, .string s0, .int .i64 e0], .agg #[.bool n1, .string s1, .int .i64 e1], .int .i8 k2, .int .i16 k3] w fun e w' => e = .returned (.bool true) ∧ Below w.heap.size w w' := by
  have HK := Lib.hid (kept_two w (.bool n0) (.string s0) (.int .i64 e0) (.bool n1) (.string s1) (.int .i64 e1) 23 hP)
  have HPB := Lib.hid hP.blk
  clear hP
  have HG0 := Lib.hid (fun w hP => ref5Good_c n0 s0 e0 w h0 hP)
  have HG1 := Lib.hid (fun w hP => ref5Good_c n1 s1 e1 w h1 hP)
  rcases hg0 : goodB s0 e0 with _ | _
  · rw [hg0] at HG0
    have HN0 := Lib.hid hg0
    clear hg0
    go_enter Tryd.func9, Tryd.ntmps9
    go_wp2_with fail
    refine (HG0.out _ HK.out.1).mono ?_
    rintro r w1 ⟨rfl, hb⟩
    have hk := HK.out.keep hb
    replace HK := Lib.hid hk
    clear hk hb
    obtain ⟨⟨⟨c00, c01, c02⟩, ⟨c10, c11, c12⟩, -⟩, -⟩ := Sd.of HK.out
    go_wp2_with fail
    refine (answers05_c _ HK.out.1).mono ?_
    rintro r w2 ⟨rfl, hb⟩
    clear c00 c01 c02 c10 c11 c12
    have hk := HK.out.keep hb
    replace HK := Lib.hid hk
    clear hk hb
    obtain ⟨⟨⟨c00, c01, c02⟩, ⟨c10, c11, c12⟩, -⟩, -⟩ := Sd.of HK.out
    go_wp2
    go_ret
    exact ⟨rfl, HK.out.2.1⟩
  · rw [hg0] at HG0
    have HD0 := Lib.hid (DA.of_good hg0)
    have HY0 := Lib.hid hg0
    clear hg0
    generalize dval (bdigs s0) = N0 at *
    rcases hg1 : goodB s1 e1 with _ | _
    · rw [hg1] at HG1
      have HN1 := Lib.hid hg1
      clear hg1
      go_enter Tryd.func9, Tryd.ntmps9
      go_wp2_with fail
      refine (HG0.out _ HK.out.1).mono ?_
      rintro r w1 ⟨rfl, hb⟩
      have hk := HK.out.keep hb
      replace HK := Lib.hid hk
      clear hk hb
      obtain ⟨⟨⟨c00, c01, c02⟩, ⟨c10, c11, c12⟩, -⟩, -⟩ := Sd.of HK.out
      go_wp2_with fail
      refine (HG1.out _ HK.out.1).mono ?_
      rintro r w2 ⟨rfl, hb⟩
      clear c00 c01 c02 c10 c11 c12
      have hk := HK.out.keep hb
      replace HK := Lib.hid hk
      clear hk hb
      obtain ⟨⟨⟨c00, c01, c02⟩, ⟨c10, c11, c12⟩, -⟩, -⟩ := Sd.of HK.out
      go_wp2_with fail
      refine (answers05_c _ HK.out.1).mono ?_
      rintro r w3 ⟨rfl, hb⟩
      clear c00 c01 c02 c10 c11 c12
      have hk := HK.out.keep hb
      replace HK := Lib.hid hk
      clear hk hb
      obtain ⟨⟨⟨c00, c01, c02⟩, ⟨c10, c11, c12⟩, -⟩, -⟩ := Sd.of HK.out
      go_wp2
      go_ret
      exact ⟨rfl, HK.out.2.1⟩
    · rw [hg1] at HG1
      have HD1 := Lib.hid (DA.of_good hg1)
      have HY1 := Lib.hid hg1
      clear hg1
      generalize dval (bdigs s1) = N1 at *
      go_enter Tryd.func9, Tryd.ntmps9
      go_wp2_with fail
      refine (HG0.out _ HK.out.1).mono ?_
      rintro r w1 ⟨rfl, hb⟩
      have hk := HK.out.keep hb
      replace HK := Lib.hid hk
      clear hk hb
      obtain ⟨⟨⟨c00, c01, c02⟩, ⟨c10, c11, c12⟩, -⟩, -⟩ := Sd.of HK.out
      go_wp2_with fail
      refine (HG1.out _ HK.out.1).mono ?_
      rintro r w2 ⟨rfl, hb⟩
      clear c00 c01 c02 c10 c11 c12
      have hk := HK.out.keep hb
      replace HK := Lib.hid hk
      clear hk hb
      obtain ⟨⟨⟨c00, c01, c02⟩, ⟨c10, c11, c12⟩, -⟩, -⟩ := Sd.of HK.out
      dsimp only at c00 c01 c02 c10 c11 c12
      have hz1 : w.heap.size + 1 < w2.heap.size := (HK.out.2.2 (w.heap.size + 1, .bool n1, .string s1, .int .i64 e1) (by simp)).2.2.2.2.2.2
      have hz0 : w.heap.size < w2.heap.size := by omega
      go_wp2_with fail
      go_cut [9, 10] (PlMid w (.bool n0, .string s0, .int .i64 e0) (.bool n1, .string s1, .int .i64 e1) (.bool n0, .string s0, .int .i64 e0) (.bool n1, .string s1, .int .i64 e1))
      case first =>
        go_region
        all_goals
          go_wp2_with fail
          go_meet
          first | exact plMid_1 HK.out _ _ _ _ _ _ _ | exact plMid_2 HK.out _ _ _ _ _ _ _
      case rest =>
        obtain ⟨gx, gy, rfl, rfl, hne, hgx, hgy, hk⟩ := hcut
        obtain ⟨x0, x1, x2, xf0, xf1, xf2, hzx⟩ := hk.2.2 (gx, .bool n0, .string s0, .int .i64 e0) (by simp)
        obtain ⟨y0, y1, y2, yf0, yf1, yf2, hzy⟩ := hk.2.2 (gy, .bool n1, .string s1, .int .i64 e1) (by simp)
        dsimp only at x0 x1 x2 xf0 xf1 xf2 hzx y0 y1 y2 yf0 yf1 yf2 hzy
        have HK2 := Lib.hid hk
        clear HK hk c00 c01 c02 c10 c11 c12 hz1 hz0
        have hlo0 := HD0.out.lo
        have hhi0 := HD0.out.hi
        have hlo1 := HD1.out.lo
        have hhi1 := HD1.out.hi
        have hne2 : gy ≠ gx := fun e => hne e.symm
        obtain ⟨h2a, h2b⟩ := h2
        obtain ⟨h3a, h3b⟩ := h3
        go_wp2_with fail
        go_cut [9] (PlEnd w [(w.heap.size, .bool n0, .string s0, .int .i64 (e0)), (w.heap.size + 1, .bool n1, .string s1, .int .i64 (e1)), (gx, .bool n0, .string s0, .int .i64 (e0 + k2)), (gy, .bool n1, .string s1, .int .i64 (e1 + k2))] (.pointer (some ⟨gx, 0, none⟩)))
        case first =>
          go_region
          all_goals
            go_wp2_with fail
            go_meet
            exact (plEnd_of HPB.out hne hgx hgy HK2.out _ _ _).drew
        case rest =>
          obtain ⟨rfl, hk⟩ := hcut
          have HK := Lib.hid hk
          clear hk HK2 x0 x1 x2 xf0 xf1 xf2 hzx y0 y1 y2 yf0 yf1 yf2 hzy hne hne2
          have HX0 := Lib.hid (HD0.out.shift h2a h2b)
          have HX1 := Lib.hid (HD1.out.shift h2a h2b)
          obtain ⟨D, hD⟩ : ∃ D, (digAt N0 e0 k3 : Int) = D := ⟨_, rfl⟩
          have HV1 := Lib.hid hD
          have HV2 := Lib.hid (show (digAt N0 (e0 + k2) (k3 + k2) : Int) = D by rw [digAt_shift, hD])
          clear hD
          obtain ⟨C, hC⟩ : ∃ C, cmpV n0 N0 e0 n1 N1 e1 = C := ⟨_, rfl⟩
          have HC1 := Lib.hid hC
          have HC2 := Lib.hid (show cmpV n0 N0 (e0 + k2) n1 N1 (e1 + k2) = C by rw [cmpV_shift, hC])
          clear hC
          have hw1 : IntKind.i64.wrap (k3 + k2) = k3 + k2 := IntWalk.i64_in _ (by omega)
          have hw3 : IntKind.i64.wrap k3 = k3 := IntWalk.i64_in _ (by omega)
          have hw4 : IntKind.i64.wrap k2 = k2 := IntWalk.i64_in _ (by omega)
          by_cases hN : N0 = 0
          · have HZ := Lib.hid (decide_eq_true hN)
            clear hN
            go_wp2_with fail
            refine wp_region_held_drew (S := (fun w' => ((w'.cell? ⟨w.heap.size, 0, none⟩ = some (.bool n0) ∧ w'.cell? ⟨w.heap.size, 1, none⟩ = some (.string s0) ∧ w'.cell? ⟨w.heap.size, 2, none⟩ = some (.int .i64 (e0))) ∧ (w'.cell? ⟨w.heap.size + 1, 0, none⟩ = some (.bool n1) ∧ w'.cell? ⟨w.heap.size + 1, 1, none⟩ = some (.string s1) ∧ w'.cell? ⟨w.heap.size + 1, 2, none⟩ = some (.int .i64 (e1))) ∧ (w'.cell? ⟨gx, 0, none⟩ = some (.bool n0) ∧ w'.cell? ⟨gx, 1, none⟩ = some (.string s0) ∧ w'.cell? ⟨gx, 2, none⟩ = some (.int .i64 (e0 + k2))) ∧ (w'.cell? ⟨gy, 0, none⟩ = some (.bool n1) ∧ w'.cell? ⟨gy, 1, none⟩ = some (.string s1) ∧ w'.cell? ⟨gy, 2, none⟩ = some (.int .i64 (e1 + k2))) ∧ True) ∧ Hid (Kept3 w [(w.heap.size, .bool n0, .string s0, .int .i64 (e0)), (w.heap.size + 1, .bool n1, .string s1, .int .i64 (e1)), (gx, .bool n0, .string s0, .int .i64 (e0 + k2)), (gy, .bool n1, .string s1, .int .i64 (e1 + k2))] w'))) (by kernel_rfl) (Sd.of HK.out.drew) (fun hHeld => ?_)
            refine step_at 0 (by kernel_rfl) rfl rfl (fun K hK => ?_)
            go_simp
            refine (answers05_c _ (Sd.pw (w0 := w) (L := [(w.heap.size, .bool n0, .string s0, .int .i64 (e0)), (w.heap.size + 1, .bool n1, .string s1, .int .i64 (e1)), (gx, .bool n0, .string s0, .int .i64 (e0 + k2)), (gy, .bool n1, .string s1, .int .i64 (e1 + k2))]) hHeld)).mono ?_
            rintro r w1 ⟨rfl, hb⟩
            have hS := Sd.keep (w0 := w) (L := [(w.heap.size, .bool n0, .string s0, .int .i64 (e0)), (w.heap.size + 1, .bool n1, .string s1, .int .i64 (e1)), (gx, .bool n0, .string s0, .int .i64 (e0 + k2)), (gy, .bool n1, .string s1, .int .i64 (e1 + k2))]) hHeld hb
            clear hHeld
            skip
            clear hb
            go_wp2_with fail
            refine hK.out _ _ hS (fun hHeld => ?_)
            clear hK K hS
            try simp only [Act.put, List.setIfInBounds_toArray, List.set_cons_zero, List.set_cons_succ]
            refine' take_at 1 (v := _) rfl (by kernel_rfl) (by kernel_rfl) (by kernel_rfl) (fun _ _ _ h => h) rfl ?y67 hHeld ?r67
            case y67 =>
              intro w hSw
              try dsimp only at hSw
              go_simp
              try with_reducible rfl
            try simp only [Act.put, List.setIfInBounds_toArray, List.set_cons_zero, List.set_cons_succ]
            refine' take_at 2 (v := _) rfl (by kernel_rfl) (by kernel_rfl) (by kernel_rfl) (fun _ _ _ h => h) rfl ?y68 hHeld ?r68
            case y68 =>
              intro w hSw
              try dsimp only at hSw
              go_simp
              try with_reducible rfl
            try simp only [Act.put, List.setIfInBounds_toArray, List.set_cons_zero, List.set_cons_succ]
            refine' take_at 3 (v := _) rfl (by kernel_rfl) (by kernel_rfl) (by kernel_rfl) (fun _ _ _ h => h) rfl ?y69 hHeld ?r69
            case y69 =>
              intro w hSw
              try dsimp only at hSw
              go_simp
              try with_reducible rfl
            try simp only [Act.put, List.setIfInBounds_toArray, List.set_cons_zero, List.set_cons_succ]
            refine' take_at 4 (v := _) rfl (by kernel_rfl) (by kernel_rfl) (by kernel_rfl) (fun _ _ _ h => h) rfl ?y70 hHeld ?r70
            case y70 =>
              intro w hSw
              try dsimp only at hSw
              go_simp
              try with_reducible rfl
            try simp only [Act.put, List.setIfInBounds_toArray, List.set_cons_zero, List.set_cons_succ]
            refine' take_at 5 (v := _) rfl (by kernel_rfl) (by kernel_rfl) (by kernel_rfl) (fun _ _ _ h => h) rfl ?y71 hHeld ?r71
            case y71 =>
              intro w hSw
              try dsimp only at hSw
              go_simp
              try with_reducible rfl
            try simp only [Act.put, List.setIfInBounds_toArray, List.set_cons_zero, List.set_cons_succ]
            refine' take_at 6 (v := _) rfl (by kernel_rfl) (by kernel_rfl) (by kernel_rfl) (fun _ _ _ h => h) rfl ?y72 hHeld ?r72
            case y72 =>
              intro w hSw
              try dsimp only at hSw
              go_simp
              try with_reducible rfl
            try simp only [Act.put, List.setIfInBounds_toArray, List.set_cons_zero, List.set_cons_succ]
            refine' take_at 7 (v := _) rfl (by kernel_rfl) (by kernel_rfl) (by kernel_rfl) (fun _ _ _ h => h) rfl ?y73 hHeld ?r73
            case y73 =>
              intro w hSw
              try dsimp only at hSw
              go_simp
              try with_reducible rfl
            try simp only [Act.put, List.setIfInBounds_toArray, List.set_cons_zero, List.set_cons_succ]
            refine' take_at 9 (v := _) rfl (by kernel_rfl) (by kernel_rfl) (by kernel_rfl) (fun _ _ _ h => h) rfl ?y74 hHeld ?r74
            case y74 =>
              intro w hSw
              try dsimp only at hSw
              go_simp
              try with_reducible rfl
            try simp only [Act.put, List.setIfInBounds_toArray, List.set_cons_zero, List.set_cons_succ]
            refine' take_at 10 (v := _) rfl (by kernel_rfl) (by kernel_rfl) (by kernel_rfl) (fun _ _ _ h => h) rfl ?y75 hHeld ?r75
            case y75 =>
              intro w hSw
              try dsimp only at hSw
              go_simp
              try with_reducible rfl
            try simp only [Act.put, List.setIfInBounds_toArray, List.set_cons_zero, List.set_cons_succ]
            refine' take_at 11 (v := _) rfl (by kernel_rfl) (by kernel_rfl) (by kernel_rfl) (fun _ _ _ h => h) rfl ?y76 hHeld ?r76
            case y76 =>
              intro w hSw
              try dsimp only at hSw
              go_simp
              try with_reducible rfl
            try simp only [Act.put, List.setIfInBounds_toArray, List.set_cons_zero, List.set_cons_succ]
            refine step_at 8 (by kernel_rfl) rfl rfl (fun K hK => ?_)
            go_simp
            refine (decDigit_v _ _ _ _ _ _ _ _ HX0.out HV2.out (by omega) (Sd.pw (w0 := w) (L := [(w.heap.size, .bool n0, .string s0, .int .i64 (e0)), (w.heap.size + 1, .bool n1, .string s1, .int .i64 (e1)), (gx, .bool n0, .string s0, .int .i64 (e0 + k2)), (gy, .bool n1, .string s1, .int .i64 (e1 + k2))]) hHeld)).mono ?_
            rintro r w1 ⟨rfl, hb⟩
            have hS := Sd.keep (w0 := w) (L := [(w.heap.size, .bool n0, .string s0, .int .i64 (e0)), (w.heap.size + 1, .bool n1, .string s1, .int .i64 (e1)), (gx, .bool n0, .string s0, .int .i64 (e0 + k2)), (gy, .bool n1, .string s1, .int .i64 (e1 + k2))]) hHeld hb
            clear hHeld
            skip
            clear hb
            go_wp2_with fail
            refine hK.out _ _ hS (fun hHeld => ?_)
            clear hK K hS
            try simp only [Act.put, List.setIfInBounds_toArray, List.set_cons_zero, List.set_cons_succ]
            refine step_at 12 (by kernel_rfl) rfl rfl (fun K hK => ?_)
            go_simp
            refine (decDigit_v _ _ _ _ _ _ _ _ HD0.out HV1.out (by omega) (Sd.pw (w0 := w) (L := [(w.heap.size, .bool n0, .string s0, .int .i64 (e0)), (w.heap.size + 1, .bool n1, .string s1, .int .i64 (e1)), (gx, .bool n0, .string s0, .int .i64 (e0 + k2)), (gy, .bool n1, .string s1, .int .i64 (e1 + k2))]) hHeld)).mono ?_
            rintro r w1 ⟨rfl, hb⟩
            have hS := Sd.keep (w0 := w) (L := [(w.heap.size, .bool n0, .string s0, .int .i64 (e0)), (w.heap.size + 1, .bool n1, .string s1, .int .i64 (e1)), (gx, .bool n0, .string s0, .int .i64 (e0 + k2)), (gy, .bool n1, .string s1, .int .i64 (e1 + k2))]) hHeld hb
            clear hHeld
            skip
            clear hb
            go_wp2_with fail
            refine hK.out _ _ hS (fun hHeld => ?_)
            clear hK K hS
            try simp only [Act.put, List.setIfInBounds_toArray, List.set_cons_zero, List.set_cons_succ]
            refine' take_at 13 (v := _) rfl (by kernel_rfl) (by kernel_rfl) (by kernel_rfl) (fun _ _ _ h => h) rfl ?y77 hHeld ?r77
            case y77 =>
              intro w hSw
              try dsimp only at hSw
              go_simp
              try with_reducible rfl
            try simp only [Act.put, List.setIfInBounds_toArray, List.set_cons_zero, List.set_cons_succ]
            refine' take_at 14 (v := _) rfl (by kernel_rfl) (by kernel_rfl) (by kernel_rfl) (fun _ _ _ h => h) rfl ?y78 hHeld ?r78
            case y78 =>
              intro w hSw
              try dsimp only at hSw
              go_simp
              try with_reducible rfl
            try simp only [Act.put, List.setIfInBounds_toArray, List.set_cons_zero, List.set_cons_succ]
            refine' take_at 15 (v := _) rfl (by kernel_rfl) (by kernel_rfl) (by kernel_rfl) (fun _ _ _ h => h) rfl ?y79 hHeld ?r79
            case y79 =>
              intro w hSw
              try dsimp only at hSw
              go_simp
              try with_reducible rfl
            try simp only [Act.put, List.setIfInBounds_toArray, List.set_cons_zero, List.set_cons_succ]
            refine' take_at 16 (v := _) rfl (by kernel_rfl) (by kernel_rfl) (by kernel_rfl) (fun _ _ _ h => h) rfl ?y80 hHeld ?r80
            case y80 =>
              intro w hSw
              try dsimp only at hSw
              go_simp
              try with_reducible rfl
            try simp only [Act.put, List.setIfInBounds_toArray, List.set_cons_zero, List.set_cons_succ]
            refine step_at 17 (by kernel_rfl) rfl rfl (fun K hK => ?_)
            go_simp
            refine (decZero_v _ _ _ _ _ _ _ HD0.out HZ.out (Sd.pw (w0 := w) (L := [(w.heap.size, .bool n0, .string s0, .int .i64 (e0)), (w.heap.size + 1, .bool n1, .string s1, .int .i64 (e1)), (gx, .bool n0, .string s0, .int .i64 (e0 + k2)), (gy, .bool n1, .string s1, .int .i64 (e1 + k2))]) hHeld)).mono ?_
            rintro r w1 ⟨rfl, hb⟩
            have hS := Sd.keep (w0 := w) (L := [(w.heap.size, .bool n0, .string s0, .int .i64 (e0)), (w.heap.size + 1, .bool n1, .string s1, .int .i64 (e1)), (gx, .bool n0, .string s0, .int .i64 (e0 + k2)), (gy, .bool n1, .string s1, .int .i64 (e1 + k2))]) hHeld hb
            clear hHeld
            skip
            clear hb
            go_wp2_with fail
            refine hK.out _ _ hS (fun hHeld => ?_)
            clear hK K hS
            try simp only [Act.put, List.setIfInBounds_toArray, List.set_cons_zero, List.set_cons_succ]
            refine' take_at 18 (v := _) rfl (by kernel_rfl) (by kernel_rfl) (by kernel_rfl) (fun _ _ _ h => h) rfl ?y81 hHeld ?r81
            case y81 =>
              intro w hSw
              try dsimp only at hSw
              go_simp
              try with_reducible rfl
            try simp only [Act.put, List.setIfInBounds_toArray, List.set_cons_zero, List.set_cons_succ]
            refine skip_at 19 rfl (by kernel_rfl) (by kernel_rfl) (by kernel_rfl) (fun _ _ _ h => h) rfl hHeld ?_
            try simp only [Act.put, List.setIfInBounds_toArray, List.set_cons_zero, List.set_cons_succ]
            refine skip_at 20 rfl (by kernel_rfl) (by kernel_rfl) (by kernel_rfl) (fun _ _ _ h => h) rfl hHeld ?_
            try simp only [Act.put, List.setIfInBounds_toArray, List.set_cons_zero, List.set_cons_succ]
            refine skip_at 21 rfl (by kernel_rfl) (by kernel_rfl) (by kernel_rfl) (fun _ _ _ h => h) rfl hHeld ?_
            try simp only [Act.put, List.setIfInBounds_toArray, List.set_cons_zero, List.set_cons_succ]
            refine skip_at 22 rfl (by kernel_rfl) (by kernel_rfl) (by kernel_rfl) (fun _ _ _ h => h) rfl hHeld ?_
            try simp only [Act.put, List.setIfInBounds_toArray, List.set_cons_zero, List.set_cons_succ]
            refine skip_at 23 rfl (by kernel_rfl) (by kernel_rfl) (by kernel_rfl) (fun _ _ _ h => h) rfl hHeld ?_
            try simp only [Act.put, List.setIfInBounds_toArray, List.set_cons_zero, List.set_cons_succ]
            refine skip_at 24 rfl (by kernel_rfl) (by kernel_rfl) (by kernel_rfl) (fun _ _ _ h => h) rfl hHeld ?_
            try simp only [Act.put, List.setIfInBounds_toArray, List.set_cons_zero, List.set_cons_succ]
            refine skip_at 25 rfl (by kernel_rfl) (by kernel_rfl) (by kernel_rfl) (fun _ _ _ h => h) rfl hHeld ?_
            try simp only [Act.put, List.setIfInBounds_toArray, List.set_cons_zero, List.set_cons_succ]
            refine skip_at 26 rfl (by kernel_rfl) (by kernel_rfl) (by kernel_rfl) (fun _ _ _ h => h) rfl hHeld ?_
            try simp only [Act.put, List.setIfInBounds_toArray, List.set_cons_zero, List.set_cons_succ]
            refine' take_at 27 (v := _) rfl (by kernel_rfl) (by kernel_rfl) (by kernel_rfl) (fun _ _ _ h => h) rfl ?y90 hHeld ?r90
            case y90 =>
              intro w hSw
              try dsimp only at hSw
              go_simp
              try with_reducible rfl
            try simp only [Act.put, List.setIfInBounds_toArray, List.set_cons_zero, List.set_cons_succ]
            refine' take_at 28 (v := _) rfl (by kernel_rfl) (by kernel_rfl) (by kernel_rfl) (fun _ _ _ h => h) rfl ?y91 hHeld ?r91
            case y91 =>
              intro w hSw
              try dsimp only at hSw
              go_simp
              try with_reducible rfl
            try simp only [Act.put, List.setIfInBounds_toArray, List.set_cons_zero, List.set_cons_succ]
            refine' take_at 29 (v := _) rfl (by kernel_rfl) (by kernel_rfl) (by kernel_rfl) (fun _ _ _ h => h) rfl ?y92 hHeld ?r92
            case y92 =>
              intro w hSw
              try dsimp only at hSw
              go_simp
              try with_reducible rfl
            try simp only [Act.put, List.setIfInBounds_toArray, List.set_cons_zero, List.set_cons_succ]
            refine' take_at 30 (v := _) rfl (by kernel_rfl) (by kernel_rfl) (by kernel_rfl) (fun _ _ _ h => h) rfl ?y93 hHeld ?r93
            case y93 =>
              intro w hSw
              try dsimp only at hSw
              go_simp
              try with_reducible rfl
            try simp only [Act.put, List.setIfInBounds_toArray, List.set_cons_zero, List.set_cons_succ]
            refine' take_at 31 (v := _) rfl (by kernel_rfl) (by kernel_rfl) (by kernel_rfl) (fun _ _ _ h => h) rfl ?y94 hHeld ?r94
            case y94 =>
              intro w hSw
              try dsimp only at hSw
              go_simp
              try with_reducible rfl
            try simp only [Act.put, List.setIfInBounds_toArray, List.set_cons_zero, List.set_cons_succ]
            refine' take_at 33 (v := _) rfl (by kernel_rfl) (by kernel_rfl) (by kernel_rfl) (fun _ _ _ h => h) rfl ?y95 hHeld ?r95
            case y95 =>
              intro w hSw
              try dsimp only at hSw
              go_simp
              try with_reducible rfl
            try simp only [Act.put, List.setIfInBounds_toArray, List.set_cons_zero, List.set_cons_succ]
            refine' take_at 34 (v := _) rfl (by kernel_rfl) (by kernel_rfl) (by kernel_rfl) (fun _ _ _ h => h) rfl ?y96 hHeld ?r96
            case y96 =>
              intro w hSw
              try dsimp only at hSw
              go_simp
              try with_reducible rfl
            try simp only [Act.put, List.setIfInBounds_toArray, List.set_cons_zero, List.set_cons_succ]
            refine step_at 32 (by kernel_rfl) rfl rfl (fun K hK => ?_)
            go_simp
            refine (decCmp_v _ _ _ _ _ _ _ _ _ _ _ HX0.out HX1.out HC2.out (by omega) (Sd.pw (w0 := w) (L := [(w.heap.size, .bool n0, .string s0, .int .i64 (e0)), (w.heap.size + 1, .bool n1, .string s1, .int .i64 (e1)), (gx, .bool n0, .string s0, .int .i64 (e0 + k2)), (gy, .bool n1, .string s1, .int .i64 (e1 + k2))]) hHeld)).mono ?_
            rintro r w1 ⟨rfl, hb⟩
            have hS := Sd.keep (w0 := w) (L := [(w.heap.size, .bool n0, .string s0, .int .i64 (e0)), (w.heap.size + 1, .bool n1, .string s1, .int .i64 (e1)), (gx, .bool n0, .string s0, .int .i64 (e0 + k2)), (gy, .bool n1, .string s1, .int .i64 (e1 + k2))]) hHeld hb
            clear hHeld
            skip
            clear hb
            go_wp2_with fail
            refine hK.out _ _ hS (fun hHeld => ?_)
            clear hK K hS
            try simp only [Act.put, List.setIfInBounds_toArray, List.set_cons_zero, List.set_cons_succ]
            refine step_at 35 (by kernel_rfl) rfl rfl (fun K hK => ?_)
            go_simp
            refine (decCmp_v _ _ _ _ _ _ _ _ _ _ _ HD0.out HD1.out HC1.out (by omega) (Sd.pw (w0 := w) (L := [(w.heap.size, .bool n0, .string s0, .int .i64 (e0)), (w.heap.size + 1, .bool n1, .string s1, .int .i64 (e1)), (gx, .bool n0, .string s0, .int .i64 (e0 + k2)), (gy, .bool n1, .string s1, .int .i64 (e1 + k2))]) hHeld)).mono ?_
            rintro r w1 ⟨rfl, hb⟩
            have hS := Sd.keep (w0 := w) (L := [(w.heap.size, .bool n0, .string s0, .int .i64 (e0)), (w.heap.size + 1, .bool n1, .string s1, .int .i64 (e1)), (gx, .bool n0, .string s0, .int .i64 (e0 + k2)), (gy, .bool n1, .string s1, .int .i64 (e1 + k2))]) hHeld hb
            clear hHeld
            skip
            clear hb
            go_wp2_with fail
            refine hK.out _ _ hS (fun hHeld => ?_)
            clear hK K hS
            try simp only [Act.put, List.setIfInBounds_toArray, List.set_cons_zero, List.set_cons_succ]
            refine' take_at 36 (v := _) rfl (by kernel_rfl) (by kernel_rfl) (by kernel_rfl) (fun _ _ _ h => h) rfl ?y97 hHeld ?r97
            case y97 =>
              intro w hSw
              try dsimp only at hSw
              go_simp
              try with_reducible rfl
            try simp only [Act.put, List.setIfInBounds_toArray, List.set_cons_zero, List.set_cons_succ]
            refine' take_at 37 (v := _) rfl (by kernel_rfl) (by kernel_rfl) (by kernel_rfl) (fun _ _ _ h => h) rfl ?y98 hHeld ?r98
            case y98 =>
              intro w hSw
              try dsimp only at hSw
              go_simp
              try with_reducible rfl
            try simp only [Act.put, List.setIfInBounds_toArray, List.set_cons_zero, List.set_cons_succ]
            refine' take_at 38 (v := _) rfl (by kernel_rfl) (by kernel_rfl) (by kernel_rfl) (fun _ _ _ h => h) rfl ?y99 hHeld ?r99
            case y99 =>
              intro w hSw
              try dsimp only at hSw
              go_simp
              try with_reducible rfl
            try simp only [Act.put, List.setIfInBounds_toArray, List.set_cons_zero, List.set_cons_succ]
            refine wpAnyH_done (by kernel_rfl) ?_ _
            have HB := Lib.hid (Sd.bel (w0 := w) (L := [(w.heap.size, .bool n0, .string s0, .int .i64 (e0)), (w.heap.size + 1, .bool n1, .string s1, .int .i64 (e1)), (gx, .bool n0, .string s0, .int .i64 (e0 + k2)), (gy, .bool n1, .string s1, .int .i64 (e1 + k2))]) hHeld)
            clear hHeld
            clear hw1 hw3 hw4
            go_wp2
            go_ret
            exact ⟨rfl, HB.out⟩
          · have HZ := Lib.hid (decide_eq_false hN)
            obtain ⟨T, hT⟩ : ∃ T, dtop N0 e0 = T := ⟨_, rfl⟩
            have HT1 := Lib.hid hT
            have HT2 := Lib.hid (show dtop N0 (e0 + k2) = T + k2 by rw [dtop_shift hN, hT])
            have htb : -10000 ≤ T ∧ T ≤ 10000 := by
              have hl := HD0.out.declen
              have hp := decs_pos hN
              rw [← hT, dtop, if_neg hN]
              omega
            obtain ⟨ht1, ht2⟩ := htb
            have hw2 : IntKind.i64.wrap (T + k2) = T + k2 := IntWalk.i64_in _ (by omega)
            clear hT hN
            go_wp2_with fail
            have hS : Sd w [(w.heap.size, .bool n0, .string s0, .int .i64 (e0)), (w.heap.size + 1, .bool n1, .string s1, .int .i64 (e1)), (gx, .bool n0, .string s0, .int .i64 (e0 + k2)), (gy, .bool n1, .string s1, .int .i64 (e1 + k2))] _ := .of HK.out.drew
            go_region_held3 (fun w' => ((w'.cell? ⟨w.heap.size, 0, none⟩ = some (.bool n0) ∧ w'.cell? ⟨w.heap.size, 1, none⟩ = some (.string s0) ∧ w'.cell? ⟨w.heap.size, 2, none⟩ = some (.int .i64 (e0))) ∧ (w'.cell? ⟨w.heap.size + 1, 0, none⟩ = some (.bool n1) ∧ w'.cell? ⟨w.heap.size + 1, 1, none⟩ = some (.string s1) ∧ w'.cell? ⟨w.heap.size + 1, 2, none⟩ = some (.int .i64 (e1))) ∧ (w'.cell? ⟨gx, 0, none⟩ = some (.bool n0) ∧ w'.cell? ⟨gx, 1, none⟩ = some (.string s0) ∧ w'.cell? ⟨gx, 2, none⟩ = some (.int .i64 (e0 + k2))) ∧ (w'.cell? ⟨gy, 0, none⟩ = some (.bool n1) ∧ w'.cell? ⟨gy, 1, none⟩ = some (.string s1) ∧ w'.cell? ⟨gy, 2, none⟩ = some (.int .i64 (e1 + k2))) ∧ True) ∧ Hid (Kept3 w [(w.heap.size, .bool n0, .string s0, .int .i64 (e0)), (w.heap.size + 1, .bool n1, .string s1, .int .i64 (e1)), (gx, .bool n0, .string s0, .int .i64 (e0 + k2)), (gy, .bool n1, .string s1, .int .i64 (e1 + k2))] w')) (assumption)
              (first
                | (go_at_call 11; refine (answers05_c _ (Sd.pw (w0 := w) (L := [(w.heap.size, .bool n0, .string s0, .int .i64 (e0)), (w.heap.size + 1, .bool n1, .string s1, .int .i64 (e1)), (gx, .bool n0, .string s0, .int .i64 (e0 + k2)), (gy, .bool n1, .string s1, .int .i64 (e1 + k2))]) (by assumption))).mono ?_; rintro r w1 ⟨rfl, hb⟩; have hS := Sd.keep (w0 := w) (L := [(w.heap.size, .bool n0, .string s0, .int .i64 (e0)), (w.heap.size + 1, .bool n1, .string s1, .int .i64 (e1)), (gx, .bool n0, .string s0, .int .i64 (e0 + k2)), (gy, .bool n1, .string s1, .int .i64 (e1 + k2))]) (by assumption) hb; clear hb)
                | (go_at_call 22; refine (decDigit_v _ _ _ _ _ _ _ _ (by first | exact HD0.out | exact HX0.out) (by first | exact HV1.out | exact HV2.out) (by omega) (Sd.pw (w0 := w) (L := [(w.heap.size, .bool n0, .string s0, .int .i64 (e0)), (w.heap.size + 1, .bool n1, .string s1, .int .i64 (e1)), (gx, .bool n0, .string s0, .int .i64 (e0 + k2)), (gy, .bool n1, .string s1, .int .i64 (e1 + k2))]) (by assumption))).mono ?_; rintro r w1 ⟨rfl, hb⟩; have hS := Sd.keep (w0 := w) (L := [(w.heap.size, .bool n0, .string s0, .int .i64 (e0)), (w.heap.size + 1, .bool n1, .string s1, .int .i64 (e1)), (gx, .bool n0, .string s0, .int .i64 (e0 + k2)), (gy, .bool n1, .string s1, .int .i64 (e1 + k2))]) (by assumption) hb; clear hb)
                | (go_at_call 15; refine (decZero_v _ _ _ _ _ _ _ HD0.out HZ.out (Sd.pw (w0 := w) (L := [(w.heap.size, .bool n0, .string s0, .int .i64 (e0)), (w.heap.size + 1, .bool n1, .string s1, .int .i64 (e1)), (gx, .bool n0, .string s0, .int .i64 (e0 + k2)), (gy, .bool n1, .string s1, .int .i64 (e1 + k2))]) (by assumption))).mono ?_; rintro r w1 ⟨rfl, hb⟩; have hS := Sd.keep (w0 := w) (L := [(w.heap.size, .bool n0, .string s0, .int .i64 (e0)), (w.heap.size + 1, .bool n1, .string s1, .int .i64 (e1)), (gx, .bool n0, .string s0, .int .i64 (e0 + k2)), (gy, .bool n1, .string s1, .int .i64 (e1 + k2))]) (by assumption) hb; clear hb)
                | (go_at_call 20; refine (decTop_v _ _ _ _ _ _ _ (by first | exact HD0.out | exact HX0.out) (by first | exact HT1.out | exact HT2.out) (by omega) (Sd.pw (w0 := w) (L := [(w.heap.size, .bool n0, .string s0, .int .i64 (e0)), (w.heap.size + 1, .bool n1, .string s1, .int .i64 (e1)), (gx, .bool n0, .string s0, .int .i64 (e0 + k2)), (gy, .bool n1, .string s1, .int .i64 (e1 + k2))]) (by assumption))).mono ?_; rintro r w1 ⟨rfl, hb⟩; have hS := Sd.keep (w0 := w) (L := [(w.heap.size, .bool n0, .string s0, .int .i64 (e0)), (w.heap.size + 1, .bool n1, .string s1, .int .i64 (e1)), (gx, .bool n0, .string s0, .int .i64 (e0 + k2)), (gy, .bool n1, .string s1, .int .i64 (e1 + k2))]) (by assumption) hb; clear hb)
                | (go_at_call 23; refine (decCmp_v _ _ _ _ _ _ _ _ _ _ _ (by first | exact HD0.out | exact HX0.out) (by first | exact HD1.out | exact HX1.out) (by first | exact HC1.out | exact HC2.out) (by omega) (Sd.pw (w0 := w) (L := [(w.heap.size, .bool n0, .string s0, .int .i64 (e0)), (w.heap.size + 1, .bool n1, .string s1, .int .i64 (e1)), (gx, .bool n0, .string s0, .int .i64 (e0 + k2)), (gy, .bool n1, .string s1, .int .i64 (e1 + k2))]) (by assumption))).mono ?_; rintro r w1 ⟨rfl, hb⟩; have hS := Sd.keep (w0 := w) (L := [(w.heap.size, .bool n0, .string s0, .int .i64 (e0)), (w.heap.size + 1, .bool n1, .string s1, .int .i64 (e1)), (gx, .bool n0, .string s0, .int .i64 (e0 + k2)), (gy, .bool n1, .string s1, .int .i64 (e1 + k2))]) (by assumption) hb; clear hb))
            rename_i hHeld
            clear hHeld
            have HB := Lib.hid hS.bel
            clear hS
            clear hw1 hw2 hw3 hw4
            go_wp2
            go_ret
            exact ⟨rfl, HB.out⟩


end Go.Proofs.YtijalgngcbifgaaDoor
