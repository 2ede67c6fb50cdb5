/-
  DecDigits: the walk.
-/
import Derived.Test.YtijalgngcbifgaaDoorDec8
namespace Go.Proofs.YtijalgngcbifgaaDoor
open Go.RowKit
set_option maxHeartbeats 4000000 in
set_option maxRecDepth 100000 in
theorem walk_decDigits (n0 : Bool) (s0 : ByteArray) (e0 : Int) (k1 : Int) (w : World) (h0 : s0.size ≤ maxLen) (h1 : -9223372036854775808 ≤ k1 ∧ k1 ≤ 9223372036854775807) (hP : Pw w) :
    Calls Tryd.prog 4 #[.agg #[.bool n0, .string s0, .int .i64 e0], .int .i64 k1] w fun e w' => e = .returned (.bool true) ∧ Below w.heap.size w w' := by
  have HK := Lib.hid (kept_one w (.bool n0) (.string s0) (.int .i64 e0) 23 hP)
  clear hP
  have HG0 := Lib.hid (fun w hP => ref5Good_c n0 s0 e0 w h0 hP)
  rcases hg0 : goodB s0 e0 with _ | _
  · rw [hg0] at HG0
    have HN0 := Lib.hid hg0
    clear hg0
    go_enter Tryd.func4, Tryd.ntmps4
    go_wp2_with fail
    refine (HG0.out _ HK.out.1).mono ?_
    rintro r w1 ⟨rfl, hb⟩
    have hk := HK.out.keep hb
    replace HK := Lib.hid hk
    clear hk hb
    obtain ⟨⟨⟨c00, c01, c02⟩, -⟩, -⟩ := Sd.of HK.out
    go_wp2_with fail
    refine (answers05_c _ HK.out.1).mono ?_
    rintro r w2 ⟨rfl, hb⟩
    clear c00 c01 c02
    have hk := HK.out.keep hb
    replace HK := Lib.hid hk
    clear hk hb
    obtain ⟨⟨⟨c00, c01, c02⟩, -⟩, -⟩ := Sd.of HK.out
    go_wp2
    go_ret
    exact ⟨rfl, HK.out.2.1⟩
  · rw [hg0] at HG0
    have HD0 := Lib.hid (DA.of_good hg0)
    have HY0 := Lib.hid hg0
    clear hg0
    generalize dval (bdigs s0) = N0 at *
    go_enter Tryd.func4, Tryd.ntmps4
    go_wp2_with fail
    refine (HG0.out _ HK.out.1).mono ?_
    rintro r w1 ⟨rfl, hb⟩
    have hk := HK.out.keep hb
    replace HK := Lib.hid hk
    clear hk hb
    obtain ⟨⟨⟨c00, c01, c02⟩, -⟩, -⟩ := Sd.of HK.out
    have hlo := HD0.out.lo
    have hhi := HD0.out.hi
    have hlen := HD0.out.len
    obtain ⟨hp1, hp2⟩ := h1
    obtain ⟨T, hT⟩ : ∃ T, dtop N0 e0 = T := ⟨_, rfl⟩
    have HT := Lib.hid hT
    obtain ⟨V, hV⟩ : ∃ V, (digAt N0 e0 T : Int) = V := ⟨_, rfl⟩
    have HV := Lib.hid hV
    have HVP := Lib.hid (fun h0 : N0 ≠ 0 => (show 0 < V by have := digAt_top h0 e0; rw [hT] at this; omega))
    clear hT hV
    by_cases hle : e0 ≤ k1
    · by_cases hlt : k1 < e0 + (s0.size : Int)
      · obtain ⟨k, hk, hks, hb⟩ := want_in HD0.out hle hlt
        have hD := digAt_lt N0 e0 k1
        have HW := Lib.hid (show (digAt N0 e0 k1 : Int) = ((s0[k].toNat : Nat) : Int) - 48 by omega)
        have hb1 : (48 : Int) ≤ ((s0[k].toNat : Nat) : Int) := by omega
        have hb2 : ((s0[k].toNat : Nat) : Int) < 58 := by omega
        clear hb
        by_cases hN : N0 = 0
        · have HZ := Lib.hid (decide_eq_true hN)
          clear hN
          go_wp2
          clear c00 c01 c02
          refine wp_region_held_drew (S := (fun w' => ((w'.cell? ⟨w.heap.size, 0, none⟩ = some (.bool n0) ∧ w'.cell? ⟨w.heap.size, 1, none⟩ = some (.string s0) ∧ w'.cell? ⟨w.heap.size, 2, none⟩ = some (.int .i64 (e0))) ∧ True) ∧ Hid (Kept3 w [(w.heap.size, .bool n0, .string s0, .int .i64 (e0))] w'))) (by kernel_rfl) (Sd.of HK.out.drew) (fun hHeld => ?_)
          refine step_at 0 (by kernel_rfl) rfl rfl (fun K hK => ?_)
          go_simp
          refine (answers05_c _ (Sd.pw (w0 := w) (L := [(w.heap.size, .bool n0, .string s0, .int .i64 (e0))]) hHeld)).mono ?_
          rintro r w1 ⟨rfl, hb⟩
          have hS := Sd.keep (w0 := w) (L := [(w.heap.size, .bool n0, .string s0, .int .i64 (e0))]) hHeld hb
          clear hHeld
          skip
          clear hb
          go_wp2_with fail
          refine hK.out _ _ hS (fun hHeld => ?_)
          clear hK K hS
          try simp only [Act.put, List.setIfInBounds_toArray, List.set_cons_zero, List.set_cons_succ]
          refine' take_at 1 (v := _) rfl (by kernel_rfl) (by kernel_rfl) (by kernel_rfl) (fun _ _ _ h => h) rfl ?y1 hHeld ?r1
          case y1 =>
            intro w hSw
            try dsimp only at hSw
            go_simp
            try with_reducible rfl
          try simp only [Act.put, List.setIfInBounds_toArray, List.set_cons_zero, List.set_cons_succ]
          refine' take_at 2 (v := _) rfl (by kernel_rfl) (by kernel_rfl) (by kernel_rfl) (fun _ _ _ h => h) rfl ?y2 hHeld ?r2
          case y2 =>
            intro w hSw
            try dsimp only at hSw
            go_simp
            try with_reducible rfl
          try simp only [Act.put, List.setIfInBounds_toArray, List.set_cons_zero, List.set_cons_succ]
          refine' take_at 4 (v := _) rfl (by kernel_rfl) (by kernel_rfl) (by kernel_rfl) (fun _ _ _ h => h) rfl ?y3 hHeld ?r3
          case y3 =>
            intro w hSw
            try dsimp only at hSw
            go_simp
            try with_reducible rfl
          try simp only [Act.put, List.setIfInBounds_toArray, List.set_cons_zero, List.set_cons_succ]
          refine step_at 3 (by kernel_rfl) rfl rfl (fun K hK => ?_)
          go_simp
          refine (decTop_v _ _ _ _ _ _ _ HD0.out HT.out (by omega) (Sd.pw (w0 := w) (L := [(w.heap.size, .bool n0, .string s0, .int .i64 (e0))]) hHeld)).mono ?_
          rintro r w1 ⟨rfl, hb⟩
          have hS := Sd.keep (w0 := w) (L := [(w.heap.size, .bool n0, .string s0, .int .i64 (e0))]) hHeld hb
          clear hHeld
          skip
          clear hb
          go_wp2_with fail
          refine hK.out _ _ hS (fun hHeld => ?_)
          clear hK K hS
          try simp only [Act.put, List.setIfInBounds_toArray, List.set_cons_zero, List.set_cons_succ]
          refine step_at 5 (by kernel_rfl) rfl rfl (fun K hK => ?_)
          go_simp
          refine (ref5Top_v _ _ _ _ _ _ _ HD0.out HT.out (by omega) (Sd.pw (w0 := w) (L := [(w.heap.size, .bool n0, .string s0, .int .i64 (e0))]) hHeld)).mono ?_
          rintro r w1 ⟨rfl, hb⟩
          have hS := Sd.keep (w0 := w) (L := [(w.heap.size, .bool n0, .string s0, .int .i64 (e0))]) hHeld hb
          clear hHeld
          skip
          clear hb
          go_wp2_with fail
          refine hK.out _ _ hS (fun hHeld => ?_)
          clear hK K hS
          try simp only [Act.put, List.setIfInBounds_toArray, List.set_cons_zero, List.set_cons_succ]
          refine' take_at 6 (v := _) rfl (by kernel_rfl) (by kernel_rfl) (by kernel_rfl) (fun _ _ _ h => h) rfl ?y4 hHeld ?r4
          case y4 =>
            intro w hSw
            try dsimp only at hSw
            go_simp
            try with_reducible rfl
          try simp only [Act.put, List.setIfInBounds_toArray, List.set_cons_zero, List.set_cons_succ]
          refine' take_at 7 (v := _) rfl (by kernel_rfl) (by kernel_rfl) (by kernel_rfl) (fun _ _ _ h => h) rfl ?y5 hHeld ?r5
          case y5 =>
            intro w hSw
            try dsimp only at hSw
            go_simp
            try with_reducible rfl
          try simp only [Act.put, List.setIfInBounds_toArray, List.set_cons_zero, List.set_cons_succ]
          refine' take_at 8 (v := _) rfl (by kernel_rfl) (by kernel_rfl) (by kernel_rfl) (fun _ _ _ h => h) rfl ?y6 hHeld ?r6
          case y6 =>
            intro w hSw
            try dsimp only at hSw
            go_simp
            try with_reducible rfl
          try simp only [Act.put, List.setIfInBounds_toArray, List.set_cons_zero, List.set_cons_succ]
          refine' take_at 9 (v := _) rfl (by kernel_rfl) (by kernel_rfl) (by kernel_rfl) (fun _ _ _ h => h) rfl ?y7 hHeld ?r7
          case y7 =>
            intro w hSw
            try dsimp only at hSw
            go_simp
            try with_reducible rfl
          try simp only [Act.put, List.setIfInBounds_toArray, List.set_cons_zero, List.set_cons_succ]
          refine' take_at 10 (v := _) rfl (by kernel_rfl) (by kernel_rfl) (by kernel_rfl) (fun _ _ _ h => h) rfl ?y8 hHeld ?r8
          case y8 =>
            intro w hSw
            try dsimp only at hSw
            go_simp
            try with_reducible rfl
          try simp only [Act.put, List.setIfInBounds_toArray, List.set_cons_zero, List.set_cons_succ]
          refine' take_at 12 (v := _) rfl (by kernel_rfl) (by kernel_rfl) (by kernel_rfl) (fun _ _ _ h => h) rfl ?y9 hHeld ?r9
          case y9 =>
            intro w hSw
            try dsimp only at hSw
            go_simp
            try with_reducible rfl
          try simp only [Act.put, List.setIfInBounds_toArray, List.set_cons_zero, List.set_cons_succ]
          refine step_at 11 (by kernel_rfl) rfl rfl (fun K hK => ?_)
          go_simp
          refine (decDigit_v _ _ _ _ _ _ _ _ HD0.out HW.out (by omega) (Sd.pw (w0 := w) (L := [(w.heap.size, .bool n0, .string s0, .int .i64 (e0))]) hHeld)).mono ?_
          rintro r w1 ⟨rfl, hb⟩
          have hS := Sd.keep (w0 := w) (L := [(w.heap.size, .bool n0, .string s0, .int .i64 (e0))]) hHeld hb
          clear hHeld
          skip
          clear hb
          go_wp2_with fail
          refine hK.out _ _ hS (fun hHeld => ?_)
          clear hK K hS
          try simp only [Act.put, List.setIfInBounds_toArray, List.set_cons_zero, List.set_cons_succ]
          refine' take_at 13 (v := _) rfl (by kernel_rfl) (by kernel_rfl) (by kernel_rfl) (fun _ _ _ h => h) rfl ?y10 hHeld ?r10
          case y10 =>
            intro w hSw
            try dsimp only at hSw
            go_simp
            try with_reducible rfl
          try simp only [Act.put, List.setIfInBounds_toArray, List.set_cons_zero, List.set_cons_succ]
          refine' take_at 14 (v := _) rfl (by kernel_rfl) (by kernel_rfl) (by kernel_rfl) (fun _ _ _ h => h) rfl ?y11 hHeld ?r11
          case y11 =>
            intro w hSw
            try dsimp only at hSw
            go_simp
            try with_reducible rfl
          try simp only [Act.put, List.setIfInBounds_toArray, List.set_cons_zero, List.set_cons_succ]
          refine' take_at 15 (v := _) rfl (by kernel_rfl) (by kernel_rfl) (by kernel_rfl) (fun _ _ _ h => h) rfl ?y12 hHeld ?r12
          case y12 =>
            intro w hSw
            try dsimp only at hSw
            go_simp
            try with_reducible rfl
          try simp only [Act.put, List.setIfInBounds_toArray, List.set_cons_zero, List.set_cons_succ]
          refine' take_at 16 (v := _) rfl (by kernel_rfl) (by kernel_rfl) (by kernel_rfl) (fun _ _ _ h => h) rfl ?y13 hHeld ?r13
          case y13 =>
            intro w hSw
            try dsimp only at hSw
            go_simp
            try with_reducible rfl
          try simp only [Act.put, List.setIfInBounds_toArray, List.set_cons_zero, List.set_cons_succ]
          refine step_at 17 (by kernel_rfl) rfl rfl (fun K hK => ?_)
          go_simp
          refine (ref5Zero_v _ _ _ _ _ _ _ HD0.out HZ.out (Sd.pw (w0 := w) (L := [(w.heap.size, .bool n0, .string s0, .int .i64 (e0))]) hHeld)).mono ?_
          rintro r w1 ⟨rfl, hb⟩
          have hS := Sd.keep (w0 := w) (L := [(w.heap.size, .bool n0, .string s0, .int .i64 (e0))]) hHeld hb
          clear hHeld
          skip
          clear hb
          go_wp2_with fail
          refine hK.out _ _ hS (fun hHeld => ?_)
          clear hK K hS
          try simp only [Act.put, List.setIfInBounds_toArray, List.set_cons_zero, List.set_cons_succ]
          refine' take_at 18 (v := _) rfl (by kernel_rfl) (by kernel_rfl) (by kernel_rfl) (fun _ _ _ h => h) rfl ?y14 hHeld ?r14
          case y14 =>
            intro w hSw
            try dsimp only at hSw
            go_simp
            try with_reducible rfl
          try simp only [Act.put, List.setIfInBounds_toArray, List.set_cons_zero, List.set_cons_succ]
          refine skip_at 19 rfl (by kernel_rfl) (by kernel_rfl) (by kernel_rfl) (fun _ _ _ h => h) rfl hHeld ?_
          try simp only [Act.put, List.setIfInBounds_toArray, List.set_cons_zero, List.set_cons_succ]
          refine skip_at 20 rfl (by kernel_rfl) (by kernel_rfl) (by kernel_rfl) (fun _ _ _ h => h) rfl hHeld ?_
          try simp only [Act.put, List.setIfInBounds_toArray, List.set_cons_zero, List.set_cons_succ]
          refine skip_at 21 rfl (by kernel_rfl) (by kernel_rfl) (by kernel_rfl) (fun _ _ _ h => h) rfl hHeld ?_
          try simp only [Act.put, List.setIfInBounds_toArray, List.set_cons_zero, List.set_cons_succ]
          refine skip_at 22 rfl (by kernel_rfl) (by kernel_rfl) (by kernel_rfl) (fun _ _ _ h => h) rfl hHeld ?_
          try simp only [Act.put, List.setIfInBounds_toArray, List.set_cons_zero, List.set_cons_succ]
          refine skip_at 23 rfl (by kernel_rfl) (by kernel_rfl) (by kernel_rfl) (fun _ _ _ h => h) rfl hHeld ?_
          try simp only [Act.put, List.setIfInBounds_toArray, List.set_cons_zero, List.set_cons_succ]
          refine' take_at 24 (v := _) rfl (by kernel_rfl) (by kernel_rfl) (by kernel_rfl) (fun _ _ _ h => h) rfl ?y20 hHeld ?r20
          case y20 =>
            intro w hSw
            try dsimp only at hSw
            go_simp
            try with_reducible rfl
          try simp only [Act.put, List.setIfInBounds_toArray, List.set_cons_zero, List.set_cons_succ]
          refine' take_at 25 (v := _) rfl (by kernel_rfl) (by kernel_rfl) (by kernel_rfl) (fun _ _ _ h => h) rfl ?y21 hHeld ?r21
          case y21 =>
            intro w hSw
            try dsimp only at hSw
            go_simp
            try with_reducible rfl
          try simp only [Act.put, List.setIfInBounds_toArray, List.set_cons_zero, List.set_cons_succ]
          refine' take_at 26 (v := _) rfl (by kernel_rfl) (by kernel_rfl) (by kernel_rfl) (fun _ _ _ h => h) rfl ?y22 hHeld ?r22
          case y22 =>
            intro w hSw
            try dsimp only at hSw
            go_simp
            try with_reducible rfl
          try simp only [Act.put, List.setIfInBounds_toArray, List.set_cons_zero, List.set_cons_succ]
          refine wpAnyH_done (by kernel_rfl) ?_ _
          have HB := Lib.hid (Sd.bel (w0 := w) (L := [(w.heap.size, .bool n0, .string s0, .int .i64 (e0))]) hHeld)
          clear hHeld
          go_wp2
          go_ret
          exact ⟨rfl, HB.out⟩
        · have HZ := Lib.hid (decide_eq_false hN)
          have hvp := HVP.out hN
          clear hN
          go_wp2
          clear c00 c01 c02
          have hS : Sd w [(w.heap.size, .bool n0, .string s0, .int .i64 (e0))] _ := .of HK.out.drew
          go_region_held3 (fun w' => ((w'.cell? ⟨w.heap.size, 0, none⟩ = some (.bool n0) ∧ w'.cell? ⟨w.heap.size, 1, none⟩ = some (.string s0) ∧ w'.cell? ⟨w.heap.size, 2, none⟩ = some (.int .i64 (e0))) ∧ True) ∧ Hid (Kept3 w [(w.heap.size, .bool n0, .string s0, .int .i64 (e0))] w')) (assumption)
            (first
              | (go_at_call 11; refine (answers05_c _ (Sd.pw (w0 := w) (L := [(w.heap.size, .bool n0, .string s0, .int .i64 (e0))]) (by assumption))).mono ?_; rintro r w1 ⟨rfl, hb⟩; have hS := Sd.keep (w0 := w) (L := [(w.heap.size, .bool n0, .string s0, .int .i64 (e0))]) (by assumption) hb; clear hb)
              | (go_at_call 20; refine (decTop_v _ _ _ _ _ _ _ HD0.out HT.out (by omega) (Sd.pw (w0 := w) (L := [(w.heap.size, .bool n0, .string s0, .int .i64 (e0))]) (by assumption))).mono ?_; rintro r w1 ⟨rfl, hb⟩; have hS := Sd.keep (w0 := w) (L := [(w.heap.size, .bool n0, .string s0, .int .i64 (e0))]) (by assumption) hb; clear hb)
              | (go_at_call 21; refine (ref5Top_v _ _ _ _ _ _ _ HD0.out HT.out (by omega) (Sd.pw (w0 := w) (L := [(w.heap.size, .bool n0, .string s0, .int .i64 (e0))]) (by assumption))).mono ?_; rintro r w1 ⟨rfl, hb⟩; have hS := Sd.keep (w0 := w) (L := [(w.heap.size, .bool n0, .string s0, .int .i64 (e0))]) (by assumption) hb; clear hb)
              | (go_at_call 22; refine (decDigit_v _ _ _ _ _ _ _ _ HD0.out (by first | exact HW.out | exact HV.out) (by omega) (Sd.pw (w0 := w) (L := [(w.heap.size, .bool n0, .string s0, .int .i64 (e0))]) (by assumption))).mono ?_; rintro r w1 ⟨rfl, hb⟩; have hS := Sd.keep (w0 := w) (L := [(w.heap.size, .bool n0, .string s0, .int .i64 (e0))]) (by assumption) hb; clear hb)
              | (go_at_call 16; refine (ref5Zero_v _ _ _ _ _ _ _ HD0.out HZ.out (Sd.pw (w0 := w) (L := [(w.heap.size, .bool n0, .string s0, .int .i64 (e0))]) (by assumption))).mono ?_; rintro r w1 ⟨rfl, hb⟩; have hS := Sd.keep (w0 := w) (L := [(w.heap.size, .bool n0, .string s0, .int .i64 (e0))]) (by assumption) hb; clear hb))
          rename_i hHeld
          clear hHeld
          have HB := Lib.hid hS.bel
          clear hS
          go_wp2
          go_ret
          exact ⟨rfl, HB.out⟩
      · have HW := Lib.hid (show (digAt N0 e0 k1 : Int) = 0 by rw [want_out HD0.out (fun hh => hlt hh.2)]; rfl)
        by_cases hN : N0 = 0
        · have HZ := Lib.hid (decide_eq_true hN)
          clear hN
          go_wp2
          clear c00 c01 c02
          refine wp_region_held_drew (S := (fun w' => ((w'.cell? ⟨w.heap.size, 0, none⟩ = some (.bool n0) ∧ w'.cell? ⟨w.heap.size, 1, none⟩ = some (.string s0) ∧ w'.cell? ⟨w.heap.size, 2, none⟩ = some (.int .i64 (e0))) ∧ True) ∧ Hid (Kept3 w [(w.heap.size, .bool n0, .string s0, .int .i64 (e0))] w'))) (by kernel_rfl) (Sd.of HK.out.drew) (fun hHeld => ?_)
          refine step_at 0 (by kernel_rfl) rfl rfl (fun K hK => ?_)
          go_simp
          refine (answers05_c _ (Sd.pw (w0 := w) (L := [(w.heap.size, .bool n0, .string s0, .int .i64 (e0))]) hHeld)).mono ?_
          rintro r w1 ⟨rfl, hb⟩
          have hS := Sd.keep (w0 := w) (L := [(w.heap.size, .bool n0, .string s0, .int .i64 (e0))]) hHeld hb
          clear hHeld
          skip
          clear hb
          go_wp2_with fail
          refine hK.out _ _ hS (fun hHeld => ?_)
          clear hK K hS
          try simp only [Act.put, List.setIfInBounds_toArray, List.set_cons_zero, List.set_cons_succ]
          refine' take_at 1 (v := _) rfl (by kernel_rfl) (by kernel_rfl) (by kernel_rfl) (fun _ _ _ h => h) rfl ?y23 hHeld ?r23
          case y23 =>
            intro w hSw
            try dsimp only at hSw
            go_simp
            try with_reducible rfl
          try simp only [Act.put, List.setIfInBounds_toArray, List.set_cons_zero, List.set_cons_succ]
          refine' take_at 2 (v := _) rfl (by kernel_rfl) (by kernel_rfl) (by kernel_rfl) (fun _ _ _ h => h) rfl ?y24 hHeld ?r24
          case y24 =>
            intro w hSw
            try dsimp only at hSw
            go_simp
            try with_reducible rfl
          try simp only [Act.put, List.setIfInBounds_toArray, List.set_cons_zero, List.set_cons_succ]
          refine' take_at 4 (v := _) rfl (by kernel_rfl) (by kernel_rfl) (by kernel_rfl) (fun _ _ _ h => h) rfl ?y25 hHeld ?r25
          case y25 =>
            intro w hSw
            try dsimp only at hSw
            go_simp
            try with_reducible rfl
          try simp only [Act.put, List.setIfInBounds_toArray, List.set_cons_zero, List.set_cons_succ]
          refine step_at 3 (by kernel_rfl) rfl rfl (fun K hK => ?_)
          go_simp
          refine (decTop_v _ _ _ _ _ _ _ HD0.out HT.out (by omega) (Sd.pw (w0 := w) (L := [(w.heap.size, .bool n0, .string s0, .int .i64 (e0))]) hHeld)).mono ?_
          rintro r w1 ⟨rfl, hb⟩
          have hS := Sd.keep (w0 := w) (L := [(w.heap.size, .bool n0, .string s0, .int .i64 (e0))]) hHeld hb
          clear hHeld
          skip
          clear hb
          go_wp2_with fail
          refine hK.out _ _ hS (fun hHeld => ?_)
          clear hK K hS
          try simp only [Act.put, List.setIfInBounds_toArray, List.set_cons_zero, List.set_cons_succ]
          refine step_at 5 (by kernel_rfl) rfl rfl (fun K hK => ?_)
          go_simp
          refine (ref5Top_v _ _ _ _ _ _ _ HD0.out HT.out (by omega) (Sd.pw (w0 := w) (L := [(w.heap.size, .bool n0, .string s0, .int .i64 (e0))]) hHeld)).mono ?_
          rintro r w1 ⟨rfl, hb⟩
          have hS := Sd.keep (w0 := w) (L := [(w.heap.size, .bool n0, .string s0, .int .i64 (e0))]) hHeld hb
          clear hHeld
          skip
          clear hb
          go_wp2_with fail
          refine hK.out _ _ hS (fun hHeld => ?_)
          clear hK K hS
          try simp only [Act.put, List.setIfInBounds_toArray, List.set_cons_zero, List.set_cons_succ]
          refine' take_at 6 (v := _) rfl (by kernel_rfl) (by kernel_rfl) (by kernel_rfl) (fun _ _ _ h => h) rfl ?y26 hHeld ?r26
          case y26 =>
            intro w hSw
            try dsimp only at hSw
            go_simp
            try with_reducible rfl
          try simp only [Act.put, List.setIfInBounds_toArray, List.set_cons_zero, List.set_cons_succ]
          refine' take_at 7 (v := _) rfl (by kernel_rfl) (by kernel_rfl) (by kernel_rfl) (fun _ _ _ h => h) rfl ?y27 hHeld ?r27
          case y27 =>
            intro w hSw
            try dsimp only at hSw
            go_simp
            try with_reducible rfl
          try simp only [Act.put, List.setIfInBounds_toArray, List.set_cons_zero, List.set_cons_succ]
          refine' take_at 8 (v := _) rfl (by kernel_rfl) (by kernel_rfl) (by kernel_rfl) (fun _ _ _ h => h) rfl ?y28 hHeld ?r28
          case y28 =>
            intro w hSw
            try dsimp only at hSw
            go_simp
            try with_reducible rfl
          try simp only [Act.put, List.setIfInBounds_toArray, List.set_cons_zero, List.set_cons_succ]
          refine' take_at 9 (v := _) rfl (by kernel_rfl) (by kernel_rfl) (by kernel_rfl) (fun _ _ _ h => h) rfl ?y29 hHeld ?r29
          case y29 =>
            intro w hSw
            try dsimp only at hSw
            go_simp
            try with_reducible rfl
          try simp only [Act.put, List.setIfInBounds_toArray, List.set_cons_zero, List.set_cons_succ]
          refine' take_at 10 (v := _) rfl (by kernel_rfl) (by kernel_rfl) (by kernel_rfl) (fun _ _ _ h => h) rfl ?y30 hHeld ?r30
          case y30 =>
            intro w hSw
            try dsimp only at hSw
            go_simp
            try with_reducible rfl
          try simp only [Act.put, List.setIfInBounds_toArray, List.set_cons_zero, List.set_cons_succ]
          refine' take_at 12 (v := _) rfl (by kernel_rfl) (by kernel_rfl) (by kernel_rfl) (fun _ _ _ h => h) rfl ?y31 hHeld ?r31
          case y31 =>
            intro w hSw
            try dsimp only at hSw
            go_simp
            try with_reducible rfl
          try simp only [Act.put, List.setIfInBounds_toArray, List.set_cons_zero, List.set_cons_succ]
          refine step_at 11 (by kernel_rfl) rfl rfl (fun K hK => ?_)
          go_simp
          refine (decDigit_v _ _ _ _ _ _ _ _ HD0.out HW.out (by omega) (Sd.pw (w0 := w) (L := [(w.heap.size, .bool n0, .string s0, .int .i64 (e0))]) hHeld)).mono ?_
          rintro r w1 ⟨rfl, hb⟩
          have hS := Sd.keep (w0 := w) (L := [(w.heap.size, .bool n0, .string s0, .int .i64 (e0))]) hHeld hb
          clear hHeld
          skip
          clear hb
          go_wp2_with fail
          refine hK.out _ _ hS (fun hHeld => ?_)
          clear hK K hS
          try simp only [Act.put, List.setIfInBounds_toArray, List.set_cons_zero, List.set_cons_succ]
          refine' take_at 13 (v := _) rfl (by kernel_rfl) (by kernel_rfl) (by kernel_rfl) (fun _ _ _ h => h) rfl ?y32 hHeld ?r32
          case y32 =>
            intro w hSw
            try dsimp only at hSw
            go_simp
            try with_reducible rfl
          try simp only [Act.put, List.setIfInBounds_toArray, List.set_cons_zero, List.set_cons_succ]
          refine' take_at 14 (v := _) rfl (by kernel_rfl) (by kernel_rfl) (by kernel_rfl) (fun _ _ _ h => h) rfl ?y33 hHeld ?r33
          case y33 =>
            intro w hSw
            try dsimp only at hSw
            go_simp
            try with_reducible rfl
          try simp only [Act.put, List.setIfInBounds_toArray, List.set_cons_zero, List.set_cons_succ]
          refine' take_at 15 (v := _) rfl (by kernel_rfl) (by kernel_rfl) (by kernel_rfl) (fun _ _ _ h => h) rfl ?y34 hHeld ?r34
          case y34 =>
            intro w hSw
            try dsimp only at hSw
            go_simp
            try with_reducible rfl
          try simp only [Act.put, List.setIfInBounds_toArray, List.set_cons_zero, List.set_cons_succ]
          refine' take_at 16 (v := _) rfl (by kernel_rfl) (by kernel_rfl) (by kernel_rfl) (fun _ _ _ h => h) rfl ?y35 hHeld ?r35
          case y35 =>
            intro w hSw
            try dsimp only at hSw
            go_simp
            try with_reducible rfl
          try simp only [Act.put, List.setIfInBounds_toArray, List.set_cons_zero, List.set_cons_succ]
          refine step_at 17 (by kernel_rfl) rfl rfl (fun K hK => ?_)
          go_simp
          refine (ref5Zero_v _ _ _ _ _ _ _ HD0.out HZ.out (Sd.pw (w0 := w) (L := [(w.heap.size, .bool n0, .string s0, .int .i64 (e0))]) hHeld)).mono ?_
          rintro r w1 ⟨rfl, hb⟩
          have hS := Sd.keep (w0 := w) (L := [(w.heap.size, .bool n0, .string s0, .int .i64 (e0))]) hHeld hb
          clear hHeld
          skip
          clear hb
          go_wp2_with fail
          refine hK.out _ _ hS (fun hHeld => ?_)
          clear hK K hS
          try simp only [Act.put, List.setIfInBounds_toArray, List.set_cons_zero, List.set_cons_succ]
          refine' take_at 18 (v := _) rfl (by kernel_rfl) (by kernel_rfl) (by kernel_rfl) (fun _ _ _ h => h) rfl ?y36 hHeld ?r36
          case y36 =>
            intro w hSw
            try dsimp only at hSw
            go_simp
            try with_reducible rfl
          try simp only [Act.put, List.setIfInBounds_toArray, List.set_cons_zero, List.set_cons_succ]
          refine skip_at 19 rfl (by kernel_rfl) (by kernel_rfl) (by kernel_rfl) (fun _ _ _ h => h) rfl hHeld ?_
          try simp only [Act.put, List.setIfInBounds_toArray, List.set_cons_zero, List.set_cons_succ]
          refine skip_at 20 rfl (by kernel_rfl) (by kernel_rfl) (by kernel_rfl) (fun _ _ _ h => h) rfl hHeld ?_
          try simp only [Act.put, List.setIfInBounds_toArray, List.set_cons_zero, List.set_cons_succ]
          refine skip_at 21 rfl (by kernel_rfl) (by kernel_rfl) (by kernel_rfl) (fun _ _ _ h => h) rfl hHeld ?_
          try simp only [Act.put, List.setIfInBounds_toArray, List.set_cons_zero, List.set_cons_succ]
          refine skip_at 22 rfl (by kernel_rfl) (by kernel_rfl) (by kernel_rfl) (fun _ _ _ h => h) rfl hHeld ?_
          try simp only [Act.put, List.setIfInBounds_toArray, List.set_cons_zero, List.set_cons_succ]
          refine skip_at 23 rfl (by kernel_rfl) (by kernel_rfl) (by kernel_rfl) (fun _ _ _ h => h) rfl hHeld ?_
          try simp only [Act.put, List.setIfInBounds_toArray, List.set_cons_zero, List.set_cons_succ]
          refine' take_at 24 (v := _) rfl (by kernel_rfl) (by kernel_rfl) (by kernel_rfl) (fun _ _ _ h => h) rfl ?y42 hHeld ?r42
          case y42 =>
            intro w hSw
            try dsimp only at hSw
            go_simp
            try with_reducible rfl
          try simp only [Act.put, List.setIfInBounds_toArray, List.set_cons_zero, List.set_cons_succ]
          refine' take_at 25 (v := _) rfl (by kernel_rfl) (by kernel_rfl) (by kernel_rfl) (fun _ _ _ h => h) rfl ?y43 hHeld ?r43
          case y43 =>
            intro w hSw
            try dsimp only at hSw
            go_simp
            try with_reducible rfl
          try simp only [Act.put, List.setIfInBounds_toArray, List.set_cons_zero, List.set_cons_succ]
          refine' take_at 26 (v := _) rfl (by kernel_rfl) (by kernel_rfl) (by kernel_rfl) (fun _ _ _ h => h) rfl ?y44 hHeld ?r44
          case y44 =>
            intro w hSw
            try dsimp only at hSw
            go_simp
            try with_reducible rfl
          try simp only [Act.put, List.setIfInBounds_toArray, List.set_cons_zero, List.set_cons_succ]
          refine wpAnyH_done (by kernel_rfl) ?_ _
          have HB := Lib.hid (Sd.bel (w0 := w) (L := [(w.heap.size, .bool n0, .string s0, .int .i64 (e0))]) hHeld)
          clear hHeld
          go_wp2
          go_ret
          exact ⟨rfl, HB.out⟩
        · have HZ := Lib.hid (decide_eq_false hN)
          have hvp := HVP.out hN
          clear hN
          go_wp2
          clear c00 c01 c02
          have hS : Sd w [(w.heap.size, .bool n0, .string s0, .int .i64 (e0))] _ := .of HK.out.drew
          go_region_held3 (fun w' => ((w'.cell? ⟨w.heap.size, 0, none⟩ = some (.bool n0) ∧ w'.cell? ⟨w.heap.size, 1, none⟩ = some (.string s0) ∧ w'.cell? ⟨w.heap.size, 2, none⟩ = some (.int .i64 (e0))) ∧ True) ∧ Hid (Kept3 w [(w.heap.size, .bool n0, .string s0, .int .i64 (e0))] w')) (assumption)
            (first
              | (go_at_call 11; refine (answers05_c _ (Sd.pw (w0 := w) (L := [(w.heap.size, .bool n0, .string s0, .int .i64 (e0))]) (by assumption))).mono ?_; rintro r w1 ⟨rfl, hb⟩; have hS := Sd.keep (w0 := w) (L := [(w.heap.size, .bool n0, .string s0, .int .i64 (e0))]) (by assumption) hb; clear hb)
              | (go_at_call 20; refine (decTop_v _ _ _ _ _ _ _ HD0.out HT.out (by omega) (Sd.pw (w0 := w) (L := [(w.heap.size, .bool n0, .string s0, .int .i64 (e0))]) (by assumption))).mono ?_; rintro r w1 ⟨rfl, hb⟩; have hS := Sd.keep (w0 := w) (L := [(w.heap.size, .bool n0, .string s0, .int .i64 (e0))]) (by assumption) hb; clear hb)
              | (go_at_call 21; refine (ref5Top_v _ _ _ _ _ _ _ HD0.out HT.out (by omega) (Sd.pw (w0 := w) (L := [(w.heap.size, .bool n0, .string s0, .int .i64 (e0))]) (by assumption))).mono ?_; rintro r w1 ⟨rfl, hb⟩; have hS := Sd.keep (w0 := w) (L := [(w.heap.size, .bool n0, .string s0, .int .i64 (e0))]) (by assumption) hb; clear hb)
              | (go_at_call 22; refine (decDigit_v _ _ _ _ _ _ _ _ HD0.out (by first | exact HW.out | exact HV.out) (by omega) (Sd.pw (w0 := w) (L := [(w.heap.size, .bool n0, .string s0, .int .i64 (e0))]) (by assumption))).mono ?_; rintro r w1 ⟨rfl, hb⟩; have hS := Sd.keep (w0 := w) (L := [(w.heap.size, .bool n0, .string s0, .int .i64 (e0))]) (by assumption) hb; clear hb)
              | (go_at_call 16; refine (ref5Zero_v _ _ _ _ _ _ _ HD0.out HZ.out (Sd.pw (w0 := w) (L := [(w.heap.size, .bool n0, .string s0, .int .i64 (e0))]) (by assumption))).mono ?_; rintro r w1 ⟨rfl, hb⟩; have hS := Sd.keep (w0 := w) (L := [(w.heap.size, .bool n0, .string s0, .int .i64 (e0))]) (by assumption) hb; clear hb))
          rename_i hHeld
          clear hHeld
          have HB := Lib.hid hS.bel
          clear hS
          go_wp2
          go_ret
          exact ⟨rfl, HB.out⟩
    · have HW := Lib.hid (show (digAt N0 e0 k1 : Int) = 0 by rw [want_out HD0.out (fun hh => hle hh.1)]; rfl)
      by_cases hN : N0 = 0
      · have HZ := Lib.hid (decide_eq_true hN)
        clear hN
        go_wp2
        clear c00 c01 c02
        refine wp_region_held_drew (S := (fun w' => ((w'.cell? ⟨w.heap.size, 0, none⟩ = some (.bool n0) ∧ w'.cell? ⟨w.heap.size, 1, none⟩ = some (.string s0) ∧ w'.cell? ⟨w.heap.size, 2, none⟩ = some (.int .i64 (e0))) ∧ True) ∧ Hid (Kept3 w [(w.heap.size, .bool n0, .string s0, .int .i64 (e0))] w'))) (by kernel_rfl) (Sd.of HK.out.drew) (fun hHeld => ?_)
        refine step_at 0 (by kernel_rfl) rfl rfl (fun K hK => ?_)
        go_simp
        refine (answers05_c _ (Sd.pw (w0 := w) (L := [(w.heap.size, .bool n0, .string s0, .int .i64 (e0))]) hHeld)).mono ?_
        rintro r w1 ⟨rfl, hb⟩
        have hS := Sd.keep (w0 := w) (L := [(w.heap.size, .bool n0, .string s0, .int .i64 (e0))]) hHeld hb
        clear hHeld
        skip
        clear hb
        go_wp2_with fail
        refine hK.out _ _ hS (fun hHeld => ?_)
        clear hK K hS
        try simp only [Act.put, List.setIfInBounds_toArray, List.set_cons_zero, List.set_cons_succ]
        refine' take_at 1 (v := _) rfl (by kernel_rfl) (by kernel_rfl) (by kernel_rfl) (fun _ _ _ h => h) rfl ?y45 hHeld ?r45
        case y45 =>
          intro w hSw
          try dsimp only at hSw
          go_simp
          try with_reducible rfl
        try simp only [Act.put, List.setIfInBounds_toArray, List.set_cons_zero, List.set_cons_succ]
        refine' take_at 2 (v := _) rfl (by kernel_rfl) (by kernel_rfl) (by kernel_rfl) (fun _ _ _ h => h) rfl ?y46 hHeld ?r46
        case y46 =>
          intro w hSw
          try dsimp only at hSw
          go_simp
          try with_reducible rfl
        try simp only [Act.put, List.setIfInBounds_toArray, List.set_cons_zero, List.set_cons_succ]
        refine' take_at 4 (v := _) rfl (by kernel_rfl) (by kernel_rfl) (by kernel_rfl) (fun _ _ _ h => h) rfl ?y47 hHeld ?r47
        case y47 =>
          intro w hSw
          try dsimp only at hSw
          go_simp
          try with_reducible rfl
        try simp only [Act.put, List.setIfInBounds_toArray, List.set_cons_zero, List.set_cons_succ]
        refine step_at 3 (by kernel_rfl) rfl rfl (fun K hK => ?_)
        go_simp
        refine (decTop_v _ _ _ _ _ _ _ HD0.out HT.out (by omega) (Sd.pw (w0 := w) (L := [(w.heap.size, .bool n0, .string s0, .int .i64 (e0))]) hHeld)).mono ?_
        rintro r w1 ⟨rfl, hb⟩
        have hS := Sd.keep (w0 := w) (L := [(w.heap.size, .bool n0, .string s0, .int .i64 (e0))]) hHeld hb
        clear hHeld
        skip
        clear hb
        go_wp2_with fail
        refine hK.out _ _ hS (fun hHeld => ?_)
        clear hK K hS
        try simp only [Act.put, List.setIfInBounds_toArray, List.set_cons_zero, List.set_cons_succ]
        refine step_at 5 (by kernel_rfl) rfl rfl (fun K hK => ?_)
        go_simp
        refine (ref5Top_v _ _ _ _ _ _ _ HD0.out HT.out (by omega) (Sd.pw (w0 := w) (L := [(w.heap.size, .bool n0, .string s0, .int .i64 (e0))]) hHeld)).mono ?_
        rintro r w1 ⟨rfl, hb⟩
        have hS := Sd.keep (w0 := w) (L := [(w.heap.size, .bool n0, .string s0, .int .i64 (e0))]) hHeld hb
        clear hHeld
        skip
        clear hb
        go_wp2_with fail
        refine hK.out _ _ hS (fun hHeld => ?_)
        clear hK K hS
        try simp only [Act.put, List.setIfInBounds_toArray, List.set_cons_zero, List.set_cons_succ]
        refine' take_at 6 (v := _) rfl (by kernel_rfl) (by kernel_rfl) (by kernel_rfl) (fun _ _ _ h => h) rfl ?y48 hHeld ?r48
        case y48 =>
          intro w hSw
          try dsimp only at hSw
          go_simp
          try with_reducible rfl
        try simp only [Act.put, List.setIfInBounds_toArray, List.set_cons_zero, List.set_cons_succ]
        refine' take_at 7 (v := _) rfl (by kernel_rfl) (by kernel_rfl) (by kernel_rfl) (fun _ _ _ h => h) rfl ?y49 hHeld ?r49
        case y49 =>
          intro w hSw
          try dsimp only at hSw
          go_simp
          try with_reducible rfl
        try simp only [Act.put, List.setIfInBounds_toArray, List.set_cons_zero, List.set_cons_succ]
        refine' take_at 8 (v := _) rfl (by kernel_rfl) (by kernel_rfl) (by kernel_rfl) (fun _ _ _ h => h) rfl ?y50 hHeld ?r50
        case y50 =>
          intro w hSw
          try dsimp only at hSw
          go_simp
          try with_reducible rfl
        try simp only [Act.put, List.setIfInBounds_toArray, List.set_cons_zero, List.set_cons_succ]
        refine' take_at 9 (v := _) rfl (by kernel_rfl) (by kernel_rfl) (by kernel_rfl) (fun _ _ _ h => h) rfl ?y51 hHeld ?r51
        case y51 =>
          intro w hSw
          try dsimp only at hSw
          go_simp
          try with_reducible rfl
        try simp only [Act.put, List.setIfInBounds_toArray, List.set_cons_zero, List.set_cons_succ]
        refine' take_at 10 (v := _) rfl (by kernel_rfl) (by kernel_rfl) (by kernel_rfl) (fun _ _ _ h => h) rfl ?y52 hHeld ?r52
        case y52 =>
          intro w hSw
          try dsimp only at hSw
          go_simp
          try with_reducible rfl
        try simp only [Act.put, List.setIfInBounds_toArray, List.set_cons_zero, List.set_cons_succ]
        refine' take_at 12 (v := _) rfl (by kernel_rfl) (by kernel_rfl) (by kernel_rfl) (fun _ _ _ h => h) rfl ?y53 hHeld ?r53
        case y53 =>
          intro w hSw
          try dsimp only at hSw
          go_simp
          try with_reducible rfl
        try simp only [Act.put, List.setIfInBounds_toArray, List.set_cons_zero, List.set_cons_succ]
        refine step_at 11 (by kernel_rfl) rfl rfl (fun K hK => ?_)
        go_simp
        refine (decDigit_v _ _ _ _ _ _ _ _ HD0.out HW.out (by omega) (Sd.pw (w0 := w) (L := [(w.heap.size, .bool n0, .string s0, .int .i64 (e0))]) hHeld)).mono ?_
        rintro r w1 ⟨rfl, hb⟩
        have hS := Sd.keep (w0 := w) (L := [(w.heap.size, .bool n0, .string s0, .int .i64 (e0))]) hHeld hb
        clear hHeld
        skip
        clear hb
        go_wp2_with fail
        refine hK.out _ _ hS (fun hHeld => ?_)
        clear hK K hS
        try simp only [Act.put, List.setIfInBounds_toArray, List.set_cons_zero, List.set_cons_succ]
        refine' take_at 13 (v := _) rfl (by kernel_rfl) (by kernel_rfl) (by kernel_rfl) (fun _ _ _ h => h) rfl ?y54 hHeld ?r54
        case y54 =>
          intro w hSw
          try dsimp only at hSw
          go_simp
          try with_reducible rfl
        try simp only [Act.put, List.setIfInBounds_toArray, List.set_cons_zero, List.set_cons_succ]
        refine' take_at 14 (v := _) rfl (by kernel_rfl) (by kernel_rfl) (by kernel_rfl) (fun _ _ _ h => h) rfl ?y55 hHeld ?r55
        case y55 =>
          intro w hSw
          try dsimp only at hSw
          go_simp
          try with_reducible rfl
        try simp only [Act.put, List.setIfInBounds_toArray, List.set_cons_zero, List.set_cons_succ]
        refine' take_at 15 (v := _) rfl (by kernel_rfl) (by kernel_rfl) (by kernel_rfl) (fun _ _ _ h => h) rfl ?y56 hHeld ?r56
        case y56 =>
          intro w hSw
          try dsimp only at hSw
          go_simp
          try with_reducible rfl
        try simp only [Act.put, List.setIfInBounds_toArray, List.set_cons_zero, List.set_cons_succ]
        refine' take_at 16 (v := _) rfl (by kernel_rfl) (by kernel_rfl) (by kernel_rfl) (fun _ _ _ h => h) rfl ?y57 hHeld ?r57
        case y57 =>
          intro w hSw
          try dsimp only at hSw
          go_simp
          try with_reducible rfl
        try simp only [Act.put, List.setIfInBounds_toArray, List.set_cons_zero, List.set_cons_succ]
        refine step_at 17 (by kernel_rfl) rfl rfl (fun K hK => ?_)
        go_simp
        refine (ref5Zero_v _ _ _ _ _ _ _ HD0.out HZ.out (Sd.pw (w0 := w) (L := [(w.heap.size, .bool n0, .string s0, .int .i64 (e0))]) hHeld)).mono ?_
        rintro r w1 ⟨rfl, hb⟩
        have hS := Sd.keep (w0 := w) (L := [(w.heap.size, .bool n0, .string s0, .int .i64 (e0))]) hHeld hb
        clear hHeld
        skip
        clear hb
        go_wp2_with fail
        refine hK.out _ _ hS (fun hHeld => ?_)
        clear hK K hS
        try simp only [Act.put, List.setIfInBounds_toArray, List.set_cons_zero, List.set_cons_succ]
        refine' take_at 18 (v := _) rfl (by kernel_rfl) (by kernel_rfl) (by kernel_rfl) (fun _ _ _ h => h) rfl ?y58 hHeld ?r58
        case y58 =>
          intro w hSw
          try dsimp only at hSw
          go_simp
          try with_reducible rfl
        try simp only [Act.put, List.setIfInBounds_toArray, List.set_cons_zero, List.set_cons_succ]
        refine skip_at 19 rfl (by kernel_rfl) (by kernel_rfl) (by kernel_rfl) (fun _ _ _ h => h) rfl hHeld ?_
        try simp only [Act.put, List.setIfInBounds_toArray, List.set_cons_zero, List.set_cons_succ]
        refine skip_at 20 rfl (by kernel_rfl) (by kernel_rfl) (by kernel_rfl) (fun _ _ _ h => h) rfl hHeld ?_
        try simp only [Act.put, List.setIfInBounds_toArray, List.set_cons_zero, List.set_cons_succ]
        refine skip_at 21 rfl (by kernel_rfl) (by kernel_rfl) (by kernel_rfl) (fun _ _ _ h => h) rfl hHeld ?_
        try simp only [Act.put, List.setIfInBounds_toArray, List.set_cons_zero, List.set_cons_succ]
        refine skip_at 22 rfl (by kernel_rfl) (by kernel_rfl) (by kernel_rfl) (fun _ _ _ h => h) rfl hHeld ?_
        try simp only [Act.put, List.setIfInBounds_toArray, List.set_cons_zero, List.set_cons_succ]
        refine skip_at 23 rfl (by kernel_rfl) (by kernel_rfl) (by kernel_rfl) (fun _ _ _ h => h) rfl hHeld ?_
        try simp only [Act.put, List.setIfInBounds_toArray, List.set_cons_zero, List.set_cons_succ]
        refine' take_at 24 (v := _) rfl (by kernel_rfl) (by kernel_rfl) (by kernel_rfl) (fun _ _ _ h => h) rfl ?y64 hHeld ?r64
        case y64 =>
          intro w hSw
          try dsimp only at hSw
          go_simp
          try with_reducible rfl
        try simp only [Act.put, List.setIfInBounds_toArray, List.set_cons_zero, List.set_cons_succ]
        refine' take_at 25 (v := _) rfl (by kernel_rfl) (by kernel_rfl) (by kernel_rfl) (fun _ _ _ h => h) rfl ?y65 hHeld ?r65
        case y65 =>
          intro w hSw
          try dsimp only at hSw
          go_simp
          try with_reducible rfl
        try simp only [Act.put, List.setIfInBounds_toArray, List.set_cons_zero, List.set_cons_succ]
        refine' take_at 26 (v := _) rfl (by kernel_rfl) (by kernel_rfl) (by kernel_rfl) (fun _ _ _ h => h) rfl ?y66 hHeld ?r66
        case y66 =>
          intro w hSw
          try dsimp only at hSw
          go_simp
          try with_reducible rfl
        try simp only [Act.put, List.setIfInBounds_toArray, List.set_cons_zero, List.set_cons_succ]
        refine wpAnyH_done (by kernel_rfl) ?_ _
        have HB := Lib.hid (Sd.bel (w0 := w) (L := [(w.heap.size, .bool n0, .string s0, .int .i64 (e0))]) hHeld)
        clear hHeld
        go_wp2
        go_ret
        exact ⟨rfl, HB.out⟩
      · have HZ := Lib.hid (decide_eq_false hN)
        have hvp := HVP.out hN
        clear hN
        go_wp2
        clear c00 c01 c02
        have hS : Sd w [(w.heap.size, .bool n0, .string s0, .int .i64 (e0))] _ := .of HK.out.drew
        go_region_held3 (fun w' => ((w'.cell? ⟨w.heap.size, 0, none⟩ = some (.bool n0) ∧ w'.cell? ⟨w.heap.size, 1, none⟩ = some (.string s0) ∧ w'.cell? ⟨w.heap.size, 2, none⟩ = some (.int .i64 (e0))) ∧ True) ∧ Hid (Kept3 w [(w.heap.size, .bool n0, .string s0, .int .i64 (e0))] w')) (assumption)
          (first
            | (go_at_call 11; refine (answers05_c _ (Sd.pw (w0 := w) (L := [(w.heap.size, .bool n0, .string s0, .int .i64 (e0))]) (by assumption))).mono ?_; rintro r w1 ⟨rfl, hb⟩; have hS := Sd.keep (w0 := w) (L := [(w.heap.size, .bool n0, .string s0, .int .i64 (e0))]) (by assumption) hb; clear hb)
            | (go_at_call 20; refine (decTop_v _ _ _ _ _ _ _ HD0.out HT.out (by omega) (Sd.pw (w0 := w) (L := [(w.heap.size, .bool n0, .string s0, .int .i64 (e0))]) (by assumption))).mono ?_; rintro r w1 ⟨rfl, hb⟩; have hS := Sd.keep (w0 := w) (L := [(w.heap.size, .bool n0, .string s0, .int .i64 (e0))]) (by assumption) hb; clear hb)
            | (go_at_call 21; refine (ref5Top_v _ _ _ _ _ _ _ HD0.out HT.out (by omega) (Sd.pw (w0 := w) (L := [(w.heap.size, .bool n0, .string s0, .int .i64 (e0))]) (by assumption))).mono ?_; rintro r w1 ⟨rfl, hb⟩; have hS := Sd.keep (w0 := w) (L := [(w.heap.size, .bool n0, .string s0, .int .i64 (e0))]) (by assumption) hb; clear hb)
            | (go_at_call 22; refine (decDigit_v _ _ _ _ _ _ _ _ HD0.out (by first | exact HW.out | exact HV.out) (by omega) (Sd.pw (w0 := w) (L := [(w.heap.size, .bool n0, .string s0, .int .i64 (e0))]) (by assumption))).mono ?_; rintro r w1 ⟨rfl, hb⟩; have hS := Sd.keep (w0 := w) (L := [(w.heap.size, .bool n0, .string s0, .int .i64 (e0))]) (by assumption) hb; clear hb)
            | (go_at_call 16; refine (ref5Zero_v _ _ _ _ _ _ _ HD0.out HZ.out (Sd.pw (w0 := w) (L := [(w.heap.size, .bool n0, .string s0, .int .i64 (e0))]) (by assumption))).mono ?_; rintro r w1 ⟨rfl, hb⟩; have hS := Sd.keep (w0 := w) (L := [(w.heap.size, .bool n0, .string s0, .int .i64 (e0))]) (by assumption) hb; clear hb))
        rename_i hHeld
        clear hHeld
        have HB := Lib.hid hS.bel
        clear hS
        go_wp2
        go_ret
        exact ⟨rfl, HB.out⟩
end Go.Proofs.YtijalgngcbifgaaDoor
