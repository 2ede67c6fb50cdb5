/-
  NumberPrints, walked.
-/
import Derived.Test.YtogipbgfnjbakaaGreatDoorNZ
import Derived.Test.YtogipbgfnjbakaaGreatDoorNX
set_option maxRecDepth 100000
namespace Go.Proofs.YtogipbgfnjbakaaGreatDoor
open Go.RowKit
set_option maxHeartbeats 16000000 in
theorem walk_numberPrints (s : ByteArray) (k : Int) (w : World) (hs : s.size ≤ 1048576) (hk : -9223372036854775808 ≤ k ∧ k ≤ 9223372036854775807) (hM : Mw w) :
    Calls Tryz.prog 4 #[.string s, .int .i64 k] w fun e w' => e = .returned (.bool true) ∧ Below w.heap.size w w' := by
  have P1 := Lib.hid (fun W => refNum_c s W (by omega))
  have HN := Lib.hid (show numZ (bts s) = ((numZ (bts s)).1, (numZ (bts s)).2) from rfl)
  generalize (numZ (bts s)).1 = p at *
  generalize (numZ (bts s)).2 = e at *
  have HA := Lib.hid (fun W (h : Mw W) => answers15_c W h)
  have HM := Lib.hid hM
  clear hM
  go_enter Tryz.func4, Tryz.ntmps4
  go_upto_region 2 with (first
    | (go_at_call 7; refine (P1.out _).mono ?_; rintro e w1 ⟨rfl, hb⟩; have HB := Lib.hid hb; clear hb)
    | (refine wpList_store_row rfl 25 _ _ rfl w1.heap.size (patN p) rfl rfl 25 patZ (BX.new w1 patZ _) (pat_size ..) rfl (pat_cells _) ?_)
    | fail)
  have hbx : BX ((w1.alloc (.cells patZ 25)).setRow w1.heap.size (patN p)) w1.heap.size (patN p) 25 := st_new
  have HB : Hid (Below w.heap.size w ((w1.alloc (.cells patZ 25)).setRow w1.heap.size (patN p))) := Lib.hid (st_below HB.out HB.out.size)
  change Code.wp _ _ _ _ ((w1.alloc (.cells patZ 25)).setRow w1.heap.size (patN p))
  generalize (w1.alloc (.cells patZ 25)).setRow w1.heap.size (patN p) = W1 at *
  generalize w1.heap.size = a at *
  clear P1
  by_cases h4 : 400 < s.size
  · have g4 : decide ((400 : Int) < (s.size : Int)) = true := decide_eq_true (by omega)
    go_wp2_with (first
      | go_skip
      | (go_at_call 5; refine (HA.out _ (HM.out.below HB.out)).mono ?_; rintro e w2 ⟨rfl, hb⟩)
      | fail)
    go_ret
    exact ⟨rfl, HB.out.trans (hb.mono HB.out.size)⟩
  · have g4 : decide ((400 : Int) < (s.size : Int)) = false := decide_eq_false (by omega)
    by_cases he : e = 0
    · subst he
      by_cases h5 : 100 < k
      · have g5 : decide ((100 : Int) < k) = true := decide_eq_true h5
        go_wp2_with (first
          | go_skip
          | (go_at_call 5; refine (HA.out _ (HM.out.below HB.out)).mono ?_; rintro e w2 ⟨rfl, hb⟩)
          | fail)
        go_ret
        exact ⟨rfl, HB.out.trans (hb.mono HB.out.size)⟩
      · have g5 : decide ((100 : Int) < k) = false := decide_eq_false h5
        have hok := okN_of HN.out
        have hk1 : k ≤ 1000 := by omega
        have hl1 : (stz (prN p k.toNat)).size ≤ 1048576 := by
          rw [stz_size]
          have hsh := pr_shorter HN.out
          rw [bts_length] at hsh
          cases e : p.sci
          · rw [pr_more_len hok e]; omega
          · rw [pr_sci e]; omega
        have T1 : Hid (∀ W, Mw W → Calls Tryz.prog 9 #[.agg (patN p), .int .i64 k] W fun e w' => e = .returned (.string (stz (prN p k.toNat))) ∧ Below W.heap.size W w') := Lib.hid (fun W h => print_c _ _ _ _ _ _ _ _ p k W h hok hk1)
        have T2 : Hid (∀ W, Calls Tryz.prog 10 #[.agg (patN p), .int .i64 k] W fun e w' => e = .returned (.string (stz (prN p k.toNat))) ∧ Below W.heap.size W w') := Lib.hid (fun W => refPrintNumber_c _ _ _ _ _ _ _ _ p k W hok hk1)
        have hsz : (Tryz.prog.info? 25).map (·.size) = some (patN p).size := pat_size ..
        generalize stz (prN p k.toNat) = T0 at *
        generalize patN p = PV at *
        clear hok HN hk1
        go_upto_region 4 with (first | go_skip | fail)
        refine wp_region_held_drew (S := (fun W : World => Hid (Below w.heap.size w W ∧ BX W a PV 25))) (by kernel_rfl) (Lib.hid ⟨HB.out.drew, hbx⟩) (fun hHeld => ?_)
        refine step_at 0 (by kernel_rfl) rfl rfl (fun K hK => ?_)
        go_simp
        refine (HA.out _ (HM.out.below hHeld.out.1)).mono ?_
        rintro r wr ⟨rfl, hb⟩
        have hS := Lib.hid (show Below w.heap.size w wr ∧ BX wr a PV 25 from ⟨hHeld.out.1.trans (hb.mono hHeld.out.1.size), hHeld.out.2.below hb hHeld.out.2.lt⟩)
        clear hHeld hb
        go_wp2_with fail
        refine hK.out _ _ hS (fun hHeld => ?_)
        clear hK K hS
        try simp only [Act.put, List.setIfInBounds_toArray, List.set_cons_zero, List.set_cons_succ]
        refine' take_at 1 (v := _) rfl (by kernel_rfl) (by kernel_rfl) (by kernel_rfl) (fun _ _ _ h => h) rfl ?y1 hHeld ?r1
        case y1 =>
          intro w hSw
          try dsimp only at hSw
          go_simp
          try with_reducible rfl
        try simp only [Act.put, List.setIfInBounds_toArray, List.set_cons_zero, List.set_cons_succ]
        refine' take_at 2 (v := _) rfl (by kernel_rfl) (by kernel_rfl) (by kernel_rfl) (fun _ _ _ h => h) rfl ?y2 hHeld ?r2
        case y2 =>
          intro w hSw
          try dsimp only at hSw
          refine exec_load_row 25 (Operand.tmp 5) ?_ a ?_ 25 _ (0, 0) _ hSw.out.2 Tryz.underlying25 rfl hsz
          · rfl
          · rfl
        try simp only [Act.put, List.setIfInBounds_toArray, List.set_cons_zero, List.set_cons_succ]
        refine' take_at 3 (v := _) rfl (by kernel_rfl) (by kernel_rfl) (by kernel_rfl) (fun _ _ _ h => h) rfl ?y3 hHeld ?r3
        case y3 =>
          intro w hSw
          try dsimp only at hSw
          go_simp
          try with_reducible rfl
        try simp only [Act.put, List.setIfInBounds_toArray, List.set_cons_zero, List.set_cons_succ]
        refine' take_at 5 (v := _) rfl (by kernel_rfl) (by kernel_rfl) (by kernel_rfl) (fun _ _ _ h => h) rfl ?y4 hHeld ?r4
        case y4 =>
          intro w hSw
          try dsimp only at hSw
          refine exec_load_row 25 (Operand.tmp 5) ?_ a ?_ 25 _ (0, 0) _ hSw.out.2 Tryz.underlying25 rfl hsz
          · rfl
          · rfl
        try simp only [Act.put, List.setIfInBounds_toArray, List.set_cons_zero, List.set_cons_succ]
        refine' take_at 6 (v := _) rfl (by kernel_rfl) (by kernel_rfl) (by kernel_rfl) (fun _ _ _ h => h) rfl ?y5 hHeld ?r5
        case y5 =>
          intro w hSw
          try dsimp only at hSw
          go_simp
          try with_reducible rfl
        try simp only [Act.put, List.setIfInBounds_toArray, List.set_cons_zero, List.set_cons_succ]
        refine step_at 4 (by kernel_rfl) rfl rfl (fun K hK => ?_)
        go_simp
        refine (T1.out _ (HM.out.below hHeld.out.1)).mono ?_
        rintro r wr ⟨rfl, hb⟩
        have hS := Lib.hid (show Below w.heap.size w wr ∧ BX wr a PV 25 from ⟨hHeld.out.1.trans (hb.mono hHeld.out.1.size), hHeld.out.2.below hb hHeld.out.2.lt⟩)
        clear hHeld hb
        go_wp2_with fail
        refine hK.out _ _ hS (fun hHeld => ?_)
        clear hK K hS
        try simp only [Act.put, List.setIfInBounds_toArray, List.set_cons_zero, List.set_cons_succ]
        refine step_at 7 (by kernel_rfl) rfl rfl (fun K hK => ?_)
        go_simp
        refine (T2.out _).mono ?_
        rintro r wr ⟨rfl, hb⟩
        have hS := Lib.hid (show Below w.heap.size w wr ∧ BX wr a PV 25 from ⟨hHeld.out.1.trans (hb.mono hHeld.out.1.size), hHeld.out.2.below hb hHeld.out.2.lt⟩)
        clear hHeld hb
        go_wp2_with fail
        refine hK.out _ _ hS (fun hHeld => ?_)
        clear hK K hS
        try simp only [Act.put, List.setIfInBounds_toArray, List.set_cons_zero, List.set_cons_succ]
        refine' take_at 8 (v := _) rfl (by kernel_rfl) (by kernel_rfl) (by kernel_rfl) (fun _ _ _ h => h) rfl ?y6 hHeld ?r6
        case y6 =>
          intro w hSw
          try dsimp only at hSw
          go_simp
          try with_reducible rfl
        try simp only [Act.put, List.setIfInBounds_toArray, List.set_cons_zero, List.set_cons_succ]
        refine' take_at 9 (v := _) rfl (by kernel_rfl) (by kernel_rfl) (by kernel_rfl) (fun _ _ _ h => h) rfl ?y7 hHeld ?r7
        case y7 =>
          intro w hSw
          try dsimp only at hSw
          go_simp
          try with_reducible rfl
        try simp only [Act.put, List.setIfInBounds_toArray, List.set_cons_zero, List.set_cons_succ]
        refine' take_at 10 (v := _) rfl (by kernel_rfl) (by kernel_rfl) (by kernel_rfl) (fun _ _ _ h => h) rfl ?y8 hHeld ?r8
        case y8 =>
          intro w hSw
          try dsimp only at hSw
          go_simp
          try with_reducible rfl
        try simp only [Act.put, List.setIfInBounds_toArray, List.set_cons_zero, List.set_cons_succ]
        refine wpAnyH_done (by kernel_rfl) ?_ _
        clear hsz
        go_wp2_with fail
        go_ret
        exact ⟨by simp, hHeld.out.1⟩
    · obtain ⟨j, rfl⟩ : ∃ j, e = j + 1 := ⟨e - 1, by omega⟩
      have hne : (((j + 1 : Nat) : Int) != 0) = true := by simp only [bne_iff_ne, ne_eq]; omega
      go_wp2_with (first
        | go_skip
        | (go_at_call 5; refine (HA.out _ (HM.out.below HB.out)).mono ?_; rintro e w2 ⟨rfl, hb⟩)
        | fail)
      go_ret
      exact ⟨rfl, HB.out.trans (hb.mono HB.out.size)⟩
end Go.Proofs.YtogipbgfnjbakaaGreatDoor
