/-
  PR: halves.
-/
import Derived.Test.YtbjelkejifgnfaaGreatDoorPQ
import Derived.Test.YtbjelkejifgnfaaGreatDoorPB
set_option maxRecDepth 100000
namespace Go.Proofs.YtbjelkejifgnfaaGreatDoor
open Go.RowKit
set_option maxHeartbeats 4000000 in
theorem halves_c (s : ByteArray) (w : World) (hs : s.size ≤ 10000000000) : Calls Tryz.prog 21 #[.string s] w fun x w' => ∃ v1 v2, x = .returned (.tuple #[v1, v2, .agg #[.int .i64 (hvsT (toks (bts s))).1, .int .i64 (hvsT (toks (bts s))).2]]) ∧
    Hid ((hvsT (toks (bts s))).1 ≠ 0 → v1 = .agg hzV ∧ v2 = .agg hzV) ∧ Hid ((hvsT (toks (bts s))).1 = 0 → HvOk w' v1 v2 (elsL (toks (bts s)).1)) ∧ Hid (Below w.heap.size w w') := by
  generalize hF : hvsT (toks (bts s)) = F
  have HSC := Lib.hid (fun W => tokScan_c s W hs)
  obtain ⟨hmay, hlen, -⟩ := toks_spec (bts_lt s)
  have hpl : ∀ t ∈ (toks (bts s)).1, 0 ≤ t.2.2 ∧ t.2.2 ≤ 10000000000 := fun t ht => by
    have := toks_at (bts_lt s) t ht
    rw [bts_length] at this
    exact ⟨this.1, by omega⟩
  clear hs
  generalize toks (bts s) = TK at *
  obtain ⟨ts, te, tp⟩ := TK
  unfold hvsT at hF
  dsimp only at *
  have HMY := Lib.hid hmay
  have HPL := Lib.hid hpl
  clear hpl
  have HX := Lib.hid (GX3.new w)
  clear hmay
  go_enter Tryz.func21, Tryz.ntmps21
  go_upto_region 1 with fail
  change Code.wp _ _ _ _ (((w.alloc (.cells hzV 49)).alloc (.cells hzV 49)).alloc (.cells #[.int .i64 0, .int .i64 0] 28))
  generalize ((w.alloc (.cells hzV 49)).alloc (.cells hzV 49)).alloc (.cells #[.int .i64 0, .int .i64 0] 28) = W0 at *
  generalize hg : w.heap.size = g at *
  have HGe := Lib.hid hg
  clear hg
  go_upto_region 2 with (first
    | (go_at_call 36; refine (HSC.out W0).mono ?_; rintro e w1 ⟨A, m, c, rfl, ho1, hb1⟩; have HX1 := Lib.hid (HX.out.below hb1.out); have a0 := HX1.out.r3.c0; have a1 := HX1.out.r3.c1; have q0 := HX1.out.r3.fr 0; have q1 := HX1.out.r3.fr 1)
    | fail)
  have hg0 : g + 2 < W0.heap.size := HX.out.r3.lt
  have HX2 := Lib.hid (HX1.out.setE te tp)
  have HT2 : Hid (OwnT ((w1.setCell ⟨g + 2, 0, none⟩ (.int .i64 te)).setCell ⟨g + 2, 1, none⟩ (.int .i64 tp)) W0.heap.size A m c ts) := Lib.hid ⟨own_setCell (own_setCell ho1.out.1 (p := ⟨g + 2, 0, none⟩) hg0 _) (p := ⟨g + 2, 1, none⟩) hg0 _, ho1.out.2⟩
  have hm := ho1.out.len
  have hcp := own_cp ho1.out.1
  generalize (w1.setCell ⟨g + 2, 0, none⟩ (.int .i64 te)).setCell ⟨g + 2, 1, none⟩ (.int .i64 tp) = W2 at *
  clear a0 a1 q0 q1 ho1 hb1 HX1
  have y0 := HX2.out.r3.c0
  have y1 := HX2.out.r3.c1
  by_cases hte : te ≠ 0
  · rw [if_pos hte] at hF
    have gp : (te != 0) = true := by simpa using hte
    have HE := Lib.hid hte
    have HF := Lib.hid hF.symm
    clear hte hF
    go_upto_region 3 with fail
    have HXd := Lib.hid HX2.out.drew
    have HR := Lib.hid (HXd.out.ret hzV hzV te tp)
    refine wp_region_held_drew (S := (fun W9 : World => Hid (FB W9 (g + 2) (.int .i64 te) (.int .i64 tp)))) (by kernel_rfl) (Lib.hid HXd.out.r3) (fun hHeld => ?_)
    refine' take_at 0 (v := _) rfl (by kernel_rfl) (by kernel_rfl) (by kernel_rfl) (fun _ _ _ h => h) rfl ?y1 hHeld ?r1
    case y1 =>
      intro w hSw
      try dsimp only at hSw
      go_simp
      try with_reducible rfl
    try simp only [Act.put, List.setIfInBounds_toArray, List.set_cons_zero, List.set_cons_succ]
    refine' take_at 1 (v := _) rfl (by kernel_rfl) (by kernel_rfl) (by kernel_rfl) (fun _ _ _ h => h) rfl ?y2 hHeld ?r2
    case y2 =>
      intro w hSw
      try dsimp only at hSw
      go_simp
      try with_reducible rfl
    try simp only [Act.put, List.setIfInBounds_toArray, List.set_cons_zero, List.set_cons_succ]
    refine' take_at 2 (v := _) rfl (by kernel_rfl) (by kernel_rfl) (by kernel_rfl) (fun _ _ _ h => h) rfl ?y3 hHeld ?r3
    case y3 =>
      intro w hSw
      try dsimp only at hSw
      have k0 := hSw.out.c0
      have k1 := hSw.out.c1
      go_simp
      try with_reducible rfl
    try simp only [Act.put, List.setIfInBounds_toArray, List.set_cons_zero, List.set_cons_succ]
    refine step_at 3 (by kernel_rfl) rfl rfl (fun K hK => ?_)
    refine wp_store_row 49 _ _ rfl g hzV rfl rfl 49 _ HXd.out.r1 (half_size _ _ _ _ _) rfl (half_cells _ _ _ _ _ _ _ _ _ _ _) ?_
    refine hK.out _ _ (Lib.hid (row_cells hHeld.out (by omega))) (fun hHeld => ?_)
    clear hK K
    try simp only [Act.put]
    refine step_at 4 (by kernel_rfl) rfl rfl (fun K hK => ?_)
    refine wp_store_row 49 _ _ rfl (g + 1) hzV rfl rfl 49 _ (row_cells (g := g) (cs := hzV) HXd.out.r2 (by omega)) (half_size _ _ _ _ _) rfl (half_cells _ _ _ _ _ _ _ _ _ _ _) ?_
    refine hK.out _ _ (Lib.hid (row_cells hHeld.out (by omega))) (fun hHeld => ?_)
    clear hK K
    try simp only [Act.put]
    refine step_at 5 (by kernel_rfl) rfl rfl (fun K hK => ?_)
    refine wp_store_row 28 _ _ rfl (g + 2) #[.int .i64 te, .int .i64 tp] rfl rfl 28 _ hHeld.out (flt_size _ _) rfl (flt_cells _ _) ?_
    refine hK.out _ _ (Lib.hid (setRow_heap _ _ _ _ _ _ hHeld.out)) (fun hHeld => ?_)
    clear hK K
    try simp only [Act.put]
    refine wpAnyH_done (by kernel_rfl) ?_ _
    clear hHeld
    go_wp2
    exact bodyPost_ret (v := .tuple #[.agg hzV, .agg hzV, .agg #[.int .i64 te, .int .i64 tp]]) (results_ccc Tryz.results21 _ _ g _ _ (0, 0) _ rfl HR.out.1 Tryz.underlying49 rfl (half_size _ _ _ _ _) (g + 1) _ _ (0, 0) _ rfl HR.out.2.1 Tryz.underlying49 rfl (half_size _ _ _ _ _) (g + 2) _ _ (0, 0) _ rfl HR.out.2.2.1 Tryz.underlying28 rfl (flt_size _ _)) rfl ⟨_, _, by rw [HF.out], Lib.hid (fun _ => ⟨rfl, rfl⟩), Lib.hid (fun h => absurd h (by rw [HF.out]; dsimp only; exact HE.out)), Lib.hid (HGe.out ▸ HR.out.2.2.2)⟩
  · rw [if_neg hte] at hF
    have hte0 : te = 0 := by simpa using hte
    subst hte0
    clear hte
    go_upto_region 5 with (first
      | (go_at_call 37; refine (elements_c A m c ts W2 HT2.out.tks hcp.1 (by omega) HMY.out).mono ?_; rintro e w3 ⟨A3, m3, c3, rfl, ho3, hb3⟩; have HX3 := Lib.hid (HX2.out.below hb3.out); have a0 := HX3.out.r3.c0; have a1 := HX3.out.r3.c1; have q0 := HX3.out.r3.fr 0; have q1 := HX3.out.r3.fr 1)
      | fail)
    have hg2 : g + 2 < W2.heap.size := HX2.out.r3.lt
    have HX4 := Lib.hid (HX3.out.setE (elsQ ts).2.1 (elsQ ts).2.2)
    have HE4 : Hid (OwnE ((w3.setCell ⟨g + 2, 0, none⟩ (.int .i64 (elsQ ts).2.1)).setCell ⟨g + 2, 1, none⟩ (.int .i64 (elsQ ts).2.2)) W2.heap.size A3 m3 c3 (elsQ ts).1) := Lib.hid ⟨own_setCell (own_setCell ho3.out.1 (p := ⟨g + 2, 0, none⟩) hg2 _) (p := ⟨g + 2, 1, none⟩) hg2 _, ho3.out.2⟩
    have hcp3 := own_cp ho3.out.1
    generalize (w3.setCell ⟨g + 2, 0, none⟩ (.int .i64 (elsQ ts).2.1)).setCell ⟨g + 2, 1, none⟩ (.int .i64 (elsQ ts).2.2) = W4 at *
    clear a0 a1 q0 q1 ho3 hb3 HX3 y0 y1 HX2 HT2
    cases hB : elsB ts with
    | some a =>
      rw [hB] at hF
      dsimp only at hF
      rw [elsQ_yes hB] at *
      dsimp only at *
      have HF := Lib.hid hF.symm
      clear hF hB
      have y0 := HX4.out.r3.c0
      have y1 := HX4.out.r3.c1
      go_upto_region 6 with fail
      have HXd := Lib.hid HX4.out.drew
      have HR := Lib.hid (HXd.out.ret hzV hzV 7 a)
      refine wp_region_held_drew (S := (fun W9 : World => Hid (FB W9 (g + 2) (.int .i64 7) (.int .i64 a)))) (by kernel_rfl) (Lib.hid HXd.out.r3) (fun hHeld => ?_)
      refine' take_at 0 (v := _) rfl (by kernel_rfl) (by kernel_rfl) (by kernel_rfl) (fun _ _ _ h => h) rfl ?y4 hHeld ?r4
      case y4 =>
        intro w hSw
        try dsimp only at hSw
        go_simp
        try with_reducible rfl
      try simp only [Act.put, List.setIfInBounds_toArray, List.set_cons_zero, List.set_cons_succ]
      refine' take_at 1 (v := _) rfl (by kernel_rfl) (by kernel_rfl) (by kernel_rfl) (fun _ _ _ h => h) rfl ?y5 hHeld ?r5
      case y5 =>
        intro w hSw
        try dsimp only at hSw
        go_simp
        try with_reducible rfl
      try simp only [Act.put, List.setIfInBounds_toArray, List.set_cons_zero, List.set_cons_succ]
      refine' take_at 2 (v := _) rfl (by kernel_rfl) (by kernel_rfl) (by kernel_rfl) (fun _ _ _ h => h) rfl ?y6 hHeld ?r6
      case y6 =>
        intro w hSw
        try dsimp only at hSw
        have k0 := hSw.out.c0
        have k1 := hSw.out.c1
        go_simp
        try with_reducible rfl
      try simp only [Act.put, List.setIfInBounds_toArray, List.set_cons_zero, List.set_cons_succ]
      refine step_at 3 (by kernel_rfl) rfl rfl (fun K hK => ?_)
      refine wp_store_row 49 _ _ rfl g hzV rfl rfl 49 _ HXd.out.r1 (half_size _ _ _ _ _) rfl (half_cells _ _ _ _ _ _ _ _ _ _ _) ?_
      refine hK.out _ _ (Lib.hid (row_cells hHeld.out (by omega))) (fun hHeld => ?_)
      clear hK K
      try simp only [Act.put]
      refine step_at 4 (by kernel_rfl) rfl rfl (fun K hK => ?_)
      refine wp_store_row 49 _ _ rfl (g + 1) hzV rfl rfl 49 _ (row_cells (g := g) (cs := hzV) HXd.out.r2 (by omega)) (half_size _ _ _ _ _) rfl (half_cells _ _ _ _ _ _ _ _ _ _ _) ?_
      refine hK.out _ _ (Lib.hid (row_cells hHeld.out (by omega))) (fun hHeld => ?_)
      clear hK K
      try simp only [Act.put]
      refine step_at 5 (by kernel_rfl) rfl rfl (fun K hK => ?_)
      refine wp_store_row 28 _ _ rfl (g + 2) #[.int .i64 7, .int .i64 a] rfl rfl 28 _ hHeld.out (flt_size _ _) rfl (flt_cells _ _) ?_
      refine hK.out _ _ (Lib.hid (setRow_heap _ _ _ _ _ _ hHeld.out)) (fun hHeld => ?_)
      clear hK K
      try simp only [Act.put]
      refine wpAnyH_done (by kernel_rfl) ?_ _
      clear hHeld
      go_wp2
      exact bodyPost_ret (v := .tuple #[.agg hzV, .agg hzV, .agg #[.int .i64 7, .int .i64 a]]) (results_ccc Tryz.results21 _ _ g _ _ (0, 0) _ rfl HR.out.1 Tryz.underlying49 rfl (half_size _ _ _ _ _) (g + 1) _ _ (0, 0) _ rfl HR.out.2.1 Tryz.underlying49 rfl (half_size _ _ _ _ _) (g + 2) _ _ (0, 0) _ rfl HR.out.2.2.1 Tryz.underlying28 rfl (flt_size _ _)) rfl ⟨_, _, by rw [HF.out], Lib.hid (fun _ => ⟨rfl, rfl⟩), Lib.hid (fun h => absurd h (by rw [HF.out]; dsimp only; exact (by decide))), Lib.hid (HGe.out ▸ HR.out.2.2.2)⟩
    | none =>
      rw [hB] at hF
      dsimp only at hF
      rw [elsQ_no hB] at *
      dsimp only at *
      have HPE : Hid (∀ e ∈ elsL ts, 0 ≤ e.1.2.2 ∧ e.1.2.2 ≤ 10000000000) := Lib.hid fun e he => by
        obtain ⟨⟨t, ht, e1⟩, -⟩ := elsL_mem ts e he
        rw [e1]; exact HPL.out t ht
      generalize hes : elsL ts = es at *
      have HES := Lib.hid hes
      clear hes
      have HF := Lib.hid hF.symm
      clear hF hB
      have y0 := HX4.out.r3.c0
      have y1 := HX4.out.r3.c1
      have HP4 := Lib.hid HE4.out.pls
      go_upto_region 8 with (first
        | (go_at_call 39; refine (of16_c ⟨#[59]⟩ _).mono ?_; rintro e w5 ⟨B, rfl, hB, hS, hb5⟩)
        | (go_at_call 38; refine (upToOf_c ⟨#[59]⟩ smi B A3 m3 c3 es w5 (HP4.out.below hb5) hcp3 (lo_lit (by decide)) (by decide) (fun e he => cls_one 59 (HP4.out.z e he)) hB hS.out).mono ?_; rintro e w6 ⟨A5, n5, c5, A6, n6, c6, rfl, h5, h6, hc5, hc6, hb6⟩)
        | fail)
      have HX6 := Lib.hid (HX4.out.below (hb5.trans (hb6.out.mono hb5.size)))
      clear hb5 hb6 hS hB HX4 y0 y1
      have hs6 : W4.heap.size ≤ w6.heap.size := by have := HP4.out.2.1; exact (h5.out).2.1
      generalize W4.heap.size = D at *
      cases hsn : snd16 es with
      | nil =>
        have hsF : semF es = (0, 0) := by unfold semF; rw [hsn]
        rw [hsF] at HF
        have hn6 : n6 = 0 := by rw [← h6.out.len]; exact congrArg List.length hsn
        subst hn6
        go_upto_region 13 with fail
        have HXd := Lib.hid HX6.out.drew
        refine wp_region_held_drew (S := (fun W9 : World => Hid (BX W9 (g + 1) #[.int .i64 0, .bool false, .slice none 0 0, .slice none 0 0, .slice none 0 0] 49))) (by kernel_rfl) (Lib.hid HXd.out.r2) (fun hHeld => ?_)
        refine' take_at 0 (v := _) rfl (by kernel_rfl) (by kernel_rfl) (by kernel_rfl) (fun _ _ _ h => h) rfl ?y7 hHeld ?r7
        case y7 =>
          intro w hSw
          try dsimp only at hSw
          go_simp
          try with_reducible rfl
        try simp only [Act.put, List.setIfInBounds_toArray, List.set_cons_zero, List.set_cons_succ]
        refine' take_at 1 (v := _) rfl (by kernel_rfl) (by kernel_rfl) (by kernel_rfl) (fun _ _ _ h => h) rfl ?y8 hHeld ?r8
        case y8 =>
          intro w hSw
          try dsimp only at hSw
          go_simp
          try with_reducible rfl
        try simp only [Act.put, List.setIfInBounds_toArray, List.set_cons_zero, List.set_cons_succ]
        refine' take_at 3 (v := _) rfl (by kernel_rfl) (by kernel_rfl) (by kernel_rfl) (fun _ _ _ h => h) rfl ?y9 hHeld ?r9
        case y9 =>
          intro w hSw
          try dsimp only at hSw
          have k0 := hSw.out.c 0
          have k1 := hSw.out.c 1
          have k2 := hSw.out.c 2
          have k3 := hSw.out.c 3
          have k4 := hSw.out.c 4
          go_simp
          try with_reducible rfl
        try simp only [Act.put, List.setIfInBounds_toArray, List.set_cons_zero, List.set_cons_succ]
        refine' take_at 4 (v := _) rfl (by kernel_rfl) (by kernel_rfl) (by kernel_rfl) (fun _ _ _ h => h) rfl ?y10 hHeld ?r10
        case y10 =>
          intro w hSw
          try dsimp only at hSw
          go_simp
          try with_reducible rfl
        try simp only [Act.put, List.setIfInBounds_toArray, List.set_cons_zero, List.set_cons_succ]
        refine step_at 2 (by kernel_rfl) rfl rfl (fun K hK => ?_)
        go_simp
        refine (cut16_c (D := D) 0 false _ _ _ A5 n5 c5 _ _ (h5.out.below ((Below.refl _ _).drew)) hc5).mono ?_
        rintro rr w7 ⟨v1, rfl, hm7, hb7⟩
        have HM7 := Lib.hid hm7
        obtain ⟨B1, p1, k1, B2, p2, k2, B3, p3, k3, rfl, -⟩ := hm7.f
        have HX7 := Lib.hid (HXd.out.below hb7.out)
        have HR := Lib.hid (HX7.out.ret #[.int .i64 0, .bool false, .slice B1 p1 k1, .slice B2 p2 k2, .slice B3 p3 k3] #[.int .i64 0, .bool false, .slice none 0 0, .slice none 0 0, .slice none 0 0] 0 0)
        have hS : Hid (BX w7 (g + 1) #[.int .i64 0, .bool false, .slice none 0 0, .slice none 0 0, .slice none 0 0] 49) := Lib.hid HX7.out.r2
        clear hHeld
        go_wp2_with fail
        refine hK.out _ _ hS (fun hHeld => ?_)
        clear hK K hS
        try simp only [Act.put, List.setIfInBounds_toArray, List.set_cons_zero, List.set_cons_succ]
        refine step_at 5 (by kernel_rfl) rfl rfl (fun K hK => ?_)
        refine wp_store_row 49 _ _ rfl g #[.int .i64 0, .bool false, .slice B1 p1 k1, .slice B2 p2 k2, .slice B3 p3 k3] rfl rfl 49 _ HX7.out.r1 (half_size _ _ _ _ _) rfl (half_cells _ _ _ _ _ _ _ _ _ _ _) ?_
        refine hK.out _ _ (Lib.hid (row_cells hHeld.out (by omega))) (fun hHeld => ?_)
        clear hK K
        try simp only [Act.put]
        refine step_at 6 (by kernel_rfl) rfl rfl (fun K hK => ?_)
        refine wp_store_row 49 _ _ rfl (g + 1) #[.int .i64 0, .bool false, .slice none 0 0, .slice none 0 0, .slice none 0 0] rfl rfl 49 _ hHeld.out (half_size _ _ _ _ _) rfl (half_cells _ _ _ _ _ _ _ _ _ _ _) ?_
        refine hK.out _ _ (Lib.hid (setRow_heap _ _ _ _ _ _ hHeld.out)) (fun hHeld => ?_)
        clear hK K
        try simp only [Act.put]
        refine step_at 7 (by kernel_rfl) rfl rfl (fun K hK => ?_)
        refine wp_store_row 28 _ _ rfl (g + 2) #[.int .i64 0, .int .i64 0] rfl rfl 28 _ (row_cells (row_cells (g := g) HX7.out.r3 (by omega)) (by omega)) (flt_size _ _) rfl (flt_cells _ _) ?_
        refine hK.out _ _ (Lib.hid (row_cells hHeld.out (by omega))) (fun hHeld => ?_)
        clear hK K
        try simp only [Act.put]
        refine wpAnyH_done (by kernel_rfl) ?_ _
        clear hHeld
        go_wp2
        have hmove : ∀ {v : Value} {b : Int} {l : Bool} {l9 : List El}, HfM w7 D v b l l9 → HfM (((w7.setRow g #[.int .i64 0, .bool false, .slice B1 p1 k1, .slice B2 p2 k2, .slice B3 p3 k3]).setRow (g + 1) #[.int .i64 0, .bool false, .slice none 0 0, .slice none 0 0, .slice none 0 0]).setRow (g + 2) #[.int .i64 0, .int .i64 0]) D v b l l9 := fun h =>
          ((h.other HX7.out.r1 (noE5 _ _ _ _ _ _ _ _ _ _ _) (by simp) (fun k hk => setRow_other _ _ _ _ hk)).other (row_cells (g := g) HX7.out.r2 (by omega)) (noE5 _ _ _ _ _ _ _ _ _ _ _) (by simp) (fun k hk => setRow_other _ _ _ _ hk)).other (row_cells (row_cells (g := g) HX7.out.r3 (by omega)) (by omega)) (noE2 _ _) (by simp) (fun k hk => setRow_other _ _ _ _ hk)
        exact bodyPost_ret (v := .tuple #[.agg #[.int .i64 0, .bool false, .slice B1 p1 k1, .slice B2 p2 k2, .slice B3 p3 k3], .agg #[.int .i64 0, .bool false, .slice none 0 0, .slice none 0 0, .slice none 0 0], .agg #[.int .i64 0, .int .i64 0]]) (results_ccc Tryz.results21 _ _ g _ _ (0, 0) _ rfl HR.out.1 Tryz.underlying49 rfl (half_size _ _ _ _ _) (g + 1) _ _ (0, 0) _ rfl HR.out.2.1 Tryz.underlying49 rfl (half_size _ _ _ _ _) (g + 2) _ _ (0, 0) _ rfl HR.out.2.2.1 Tryz.underlying28 rfl (flt_size _ _)) rfl ⟨_, _, by rw [HF.out], Lib.hid (fun h => absurd (by rw [HF.out]) h), Lib.hid (fun _ => by rw [HES.out]; exact ⟨D, hmove HM7.out, by rw [hsn]; rfl⟩), Lib.hid (HGe.out ▸ HR.out.2.2.2)⟩
      | cons e0 r =>
        have he0 := snd16_head hsn
        have hpe0 := HPE.out e0 ((List.dropWhile_suffix _).subset (show e0 ∈ snd16 es by rw [hsn]; simp))
        have hsF : semF es = (match snd16 r with | [] => (0, 0) | f :: _ => (4, f.1.2.2)) := by unfold semF; rw [hsn]; rfl
        rw [hsF] at HF
        clear hsF
        have h6' := Lib.hid (show Pls w6 D A6 n6 (e0 :: r) by rw [← hsn]; exact h6.out)
        clear h6
        obtain ⟨ad6, rfl, h06⟩ := pls_none h6'.out
        obtain ⟨a7, HSL, HA7⟩ := sl1_el ad6 n6 c6 h06 hc6.1
        obtain ⟨t1, t2⟩ := h6'.out.tail
        have hr6 : Hid (Pls w6 D (some a7) (n6 - 1) r) := Lib.hid (by
          rcases HA7 with h | rfl
          · have := hc6.1
            rw [t2 (by omega), show n6 - 1 = 0 by omega]; exact t1.nil _
          · exact t1)
        have hc7 : Cp (some a7) (n6 - 1) (c6 - 1) := Cp.some (by have := hc6.1; omega)
        obtain ⟨ad', ead, hbk, k0, -⟩ := h6'.out.at_ h06
        obtain rfl := Option.some.inj ead
        obtain ⟨⟨er, eq, ea⟩, ep⟩ := e0
        obtain rfl : ep = false := he0
        change w6.cell? ad6 = some (.iface 110 (.agg #[.int .i32 er, .bool eq, .int .i64 ea])) at k0
        clear t1 t2 HA7 h6' ead hbk
        generalize n6 - 1 = n7 at *
        generalize c6 - 1 = c7 at *
        dsimp only at hpe0
        have gwr : IntKind.i64.wrap (ea + 1) = ea + 1 := by rw [IntKind.wrap_i64]; omega
        go_upto_region 9 with fail
        have HXd := Lib.hid HX6.out.drew
        have hne6 := cell_ne HX6.out.r2 (noE5 _ _ _ _ _ _ _ _ _ _ _) k0
        have hbk6 : ad6.block < w6.heap.size := World.block_lt_of_cell? _ _ k0
        refine wp_region_held_drew (S := (fun W9 : World => Hid (W9.cell? ad6 = some (.iface 110 (.agg #[.int .i32 er, .bool eq, .int .i64 ea]))))) (by kernel_rfl) (Lib.hid k0) (fun hHeld => ?_)
        refine' take_at 0 (v := _) rfl (by kernel_rfl) (by kernel_rfl) (by kernel_rfl) (fun _ _ _ h => h) rfl ?y11 hHeld ?r11
        case y11 =>
          intro w hSw
          try dsimp only at hSw
          go_simp
          try with_reducible rfl
        try simp only [Act.put, List.setIfInBounds_toArray, List.set_cons_zero, List.set_cons_succ]
        refine' take_at 1 (v := _) rfl (by kernel_rfl) (by kernel_rfl) (by kernel_rfl) (fun _ _ _ h => h) rfl ?y12 hHeld ?r12
        case y12 =>
          intro w hSw
          try dsimp only at hSw
          go_simp
          try with_reducible rfl
        try simp only [Act.put, List.setIfInBounds_toArray, List.set_cons_zero, List.set_cons_succ]
        refine' take_at 2 (v := _) rfl (by kernel_rfl) (by kernel_rfl) (by kernel_rfl) (fun _ _ _ h => h) rfl ?y13 hHeld ?r13
        case y13 =>
          intro w hSw
          try dsimp only at hSw
          have k9 := hSw.out
          go_simp
          try with_reducible rfl
        try simp only [Act.put, List.setIfInBounds_toArray, List.set_cons_zero, List.set_cons_succ]
        refine' take_at 6 (v := _) rfl (by kernel_rfl) (by kernel_rfl) (by kernel_rfl) (fun _ _ _ h => h) rfl ?y14 hHeld ?r14
        case y14 =>
          intro w hSw
          try dsimp only at hSw
          go_simp
          try with_reducible rfl
        try simp only [Act.put, List.setIfInBounds_toArray, List.set_cons_zero, List.set_cons_succ]
        refine' take_at 7 (v := _) rfl (by kernel_rfl) (by kernel_rfl) (by kernel_rfl) (fun _ _ _ h => h) rfl ?y15 hHeld ?r15
        case y15 =>
          intro w hSw
          try dsimp only at hSw
          go_simp
          try with_reducible rfl
        try simp only [Act.put, List.setIfInBounds_toArray, List.set_cons_zero, List.set_cons_succ]
        refine step_at 3 (by kernel_rfl) rfl rfl (fun K hK => ?_)
        go_simp
        refine (splace_c er ea eq _).mono ?_
        rintro rr w8 ⟨rfl, hb8⟩
        have HX8 := Lib.hid (HXd.out.below hb8)
        have HB8 := Lib.hid (show Below w6.heap.size w6 w8 from ((Below.refl _ _).drew).trans hb8)
        have hS := Lib.hid ((hb8.cell (p := ad6) hbk6).trans hHeld.out)
        clear hHeld
        go_wp2_with fail
        refine hK.out _ _ hS (fun hHeld => ?_)
        clear hK K hS
        try simp only [Act.put, List.setIfInBounds_toArray, List.set_cons_zero, List.set_cons_succ]
        refine' take_at 4 (v := _) rfl (by kernel_rfl) (by kernel_rfl) (by kernel_rfl) (fun _ _ _ h => h) rfl ?y16 hHeld ?r16
        case y16 =>
          intro w hSw
          try dsimp only at hSw
          go_simp
          try with_reducible rfl
        try simp only [Act.put, List.setIfInBounds_toArray, List.set_cons_zero, List.set_cons_succ]
        refine' take_at 5 (v := _) rfl (by kernel_rfl) (by kernel_rfl) (by kernel_rfl) (fun _ _ _ h => h) rfl ?y17 hHeld ?r17
        case y17 =>
          intro w hSw
          try dsimp only at hSw
          go_simp
          try with_reducible rfl
        try simp only [Act.put, List.setIfInBounds_toArray, List.set_cons_zero, List.set_cons_succ]
        refine step_at 8 (by kernel_rfl) rfl rfl (fun K hK => ?_)
        go_simp
        refine (cut16_c (D := D) (ea + 1) true _ _ _ (some a7) n7 c7 r _ (hr6.out.below HB8.out) hc7).mono ?_
        rintro rr w9 ⟨v2, rfl, hm9, hb9⟩
        have HM9 := Lib.hid hm9
        obtain ⟨E1, f1, m1, E2, f2, m2, E3, f3, m3, rfl, -⟩ := hm9.f
        have HX9 := Lib.hid (HX8.out.below hb9.out)
        have HB9 := Lib.hid (HB8.out.trans (hb9.out.mono HB8.out.size))
        have hS := Lib.hid ((hb9.out.cell (p := ad6) (Nat.lt_of_lt_of_le hbk6 HB8.out.size)).trans hHeld.out)
        clear hHeld
        go_wp2_with fail
        refine hK.out _ _ hS (fun hHeld => ?_)
        clear hK K hS
        try simp only [Act.put, List.setIfInBounds_toArray, List.set_cons_zero, List.set_cons_succ]
        refine step_at 9 (by kernel_rfl) rfl rfl (fun K hK => ?_)
        refine wp_store_row 49 _ _ rfl (g + 1) #[.int .i64 (ea + 1), .bool true, .slice E1 f1 m1, .slice E2 f2 m2, .slice E3 f3 m3] rfl rfl 49 _ HX9.out.r2 (half_size _ _ _ _ _) rfl (half_cells _ _ _ _ _ _ _ _ _ _ _) ?_
        refine hK.out _ _ (Lib.hid ((cell_setRow_other _ _ _ _ hne6).trans hHeld.out)) (fun hHeld => ?_)
        clear hK K
        try simp only [Act.put]
        refine wpAnyH_done (by kernel_rfl) ?_ _
        clear hHeld
        have HX10 := Lib.hid (HX9.out.set2 #[.int .i64 (ea + 1), .bool true, .slice E1 f1 m1, .slice E2 f2 m2, .slice E3 f3 m3])
        have h5x := Lib.hid (show Pls (w9.setRow (g + 1) #[.int .i64 (ea + 1), .bool true, .slice E1 f1 m1, .slice E2 f2 m2, .slice E3 f3 m3]) D A5 n5 _ from (h5.out.below HB9.out).other HX9.out.r2 (noE5 _ _ _ _ _ _ _ _ _ _ _) (by simp) (fun k hk => setRow_other _ _ _ _ hk))
        have hr10 := Lib.hid (show Pls (w9.setRow (g + 1) #[.int .i64 (ea + 1), .bool true, .slice E1 f1 m1, .slice E2 f2 m2, .slice E3 f3 m3]) D (some a7) n7 r from (hr6.out.below HB9.out).other HX9.out.r2 (noE5 _ _ _ _ _ _ _ _ _ _ _) (by simp) (fun k hk => setRow_other _ _ _ _ hk))
        have HM10 := Lib.hid (show HfM (w9.setRow (g + 1) #[.int .i64 (ea + 1), .bool true, .slice E1 f1 m1, .slice E2 f2 m2, .slice E3 f3 m3]) D _ (ea + 1) true r from HM9.out.other HX9.out.r2 (noE5 _ _ _ _ _ _ _ _ _ _ _) (by simp) (fun k hk => setRow_other _ _ _ _ hk))
        generalize w9.setRow (g + 1) #[.int .i64 (ea + 1), .bool true, .slice E1 f1 m1, .slice E2 f2 m2, .slice E3 f3 m3] = W10 at *
        clear hr6 h5 HM9 HX9 HX8 HXd HB8 HB9 k0 hbk6 hne6 HX6 hs6
        go_upto_region 10 with fail
        refine wp_region_held_drew (S := (fun W9 : World => Hid (Below W10.heap.size W10 W9))) (by kernel_rfl) (Lib.hid ((Below.refl _ _).drew)) (fun hHeld => ?_)
        refine' take_at 0 (v := _) rfl (by kernel_rfl) (by kernel_rfl) (by kernel_rfl) (fun _ _ _ h => h) rfl ?y18 hHeld ?r18
        case y18 =>
          intro w hSw
          try dsimp only at hSw
          go_simp
          try with_reducible rfl
        try simp only [Act.put, List.setIfInBounds_toArray, List.set_cons_zero, List.set_cons_succ]
        refine' take_at 1 (v := _) rfl (by kernel_rfl) (by kernel_rfl) (by kernel_rfl) (fun _ _ _ h => h) rfl ?y19 hHeld ?r19
        case y19 =>
          intro w hSw
          try dsimp only at hSw
          go_simp
          try with_reducible rfl
        try simp only [Act.put, List.setIfInBounds_toArray, List.set_cons_zero, List.set_cons_succ]
        refine step_at 2 (by kernel_rfl) rfl rfl (fun K hK => ?_)
        go_simp
        refine (of16_c ⟨#[59]⟩ _).mono ?_
        rintro rr w11 ⟨B, rfl, hB, hSS, hb11⟩
        have hS := Lib.hid (hHeld.out.trans (hb11.mono hHeld.out.size))
        have HB11 := hS
        clear hHeld
        go_wp2_with fail
        refine hK.out _ _ hS (fun hHeld => ?_)
        clear hK K hS
        try simp only [Act.put, List.setIfInBounds_toArray, List.set_cons_zero, List.set_cons_succ]
        refine step_at 3 (by kernel_rfl) rfl rfl (fun K hK => ?_)
        go_simp
        refine (upToOf_c ⟨#[59]⟩ smi B (some a7) n7 c7 r w11 (hr10.out.below HB11.out) hc7 (lo_lit (by decide)) (by decide) (fun e he => cls_one 59 (hr10.out.z e he)) hB hSS.out).mono ?_
        rintro rr w12 ⟨A8, n8, c8, A9, n9, c9, rfl, h8, h9, hc8, hc9, hb12⟩
        have hS := Lib.hid (HB11.out.trans (hb12.out.mono HB11.out.size))
        have HB12 := hS
        clear hHeld
        go_wp2_with fail
        refine hK.out _ _ hS (fun hHeld => ?_)
        clear hK K hS
        try simp only [Act.put, List.setIfInBounds_toArray, List.set_cons_zero, List.set_cons_succ]
        refine' take_at 4 (v := _) rfl (by kernel_rfl) (by kernel_rfl) (by kernel_rfl) (fun _ _ _ h => h) rfl ?y20 hHeld ?r20
        case y20 =>
          intro w hSw
          try dsimp only at hSw
          go_simp
          try with_reducible rfl
        try simp only [Act.put, List.setIfInBounds_toArray, List.set_cons_zero, List.set_cons_succ]
        refine' take_at 5 (v := _) rfl (by kernel_rfl) (by kernel_rfl) (by kernel_rfl) (fun _ _ _ h => h) rfl ?y21 hHeld ?r21
        case y21 =>
          intro w hSw
          try dsimp only at hSw
          go_simp
          try with_reducible rfl
        try simp only [Act.put, List.setIfInBounds_toArray, List.set_cons_zero, List.set_cons_succ]
        refine' take_at 6 (v := _) rfl (by kernel_rfl) (by kernel_rfl) (by kernel_rfl) (fun _ _ _ h => h) rfl ?y22 hHeld ?r22
        case y22 =>
          intro w hSw
          try dsimp only at hSw
          go_simp
          try with_reducible rfl
        try simp only [Act.put, List.setIfInBounds_toArray, List.set_cons_zero, List.set_cons_succ]
        refine' take_at 7 (v := _) rfl (by kernel_rfl) (by kernel_rfl) (by kernel_rfl) (fun _ _ _ h => h) rfl ?y23 hHeld ?r23
        case y23 =>
          intro w hSw
          try dsimp only at hSw
          go_simp
          try with_reducible rfl
        try simp only [Act.put, List.setIfInBounds_toArray, List.set_cons_zero, List.set_cons_succ]
        refine' take_at 8 (v := _) rfl (by kernel_rfl) (by kernel_rfl) (by kernel_rfl) (fun _ _ _ h => h) rfl ?y24 hHeld ?r24
        case y24 =>
          intro w hSw
          try dsimp only at hSw
          go_simp
          try with_reducible rfl
        try simp only [Act.put, List.setIfInBounds_toArray, List.set_cons_zero, List.set_cons_succ]
        refine wpAnyH_done (by kernel_rfl) ?_ _
        clear hHeld
        have HX12 := Lib.hid (HX10.out.below HB12.out)
        have h5y := Lib.hid (h5x.out.below HB12.out)
        have HM12 := Lib.hid (HM10.out.below HB12.out)
        cases hsr : snd16 r with
        | nil =>
          rw [hsr] at HF
          dsimp only at HF
          have hn9 : n9 = 0 := by rw [← h9.out.len]; exact congrArg List.length hsr
          subst hn9
          go_upto_region 13 with fail
          have HXd := Lib.hid HX12.out.drew
          refine wp_region_held_drew (S := (fun W9 : World => Hid (BX W9 (g + 1) #[.int .i64 (ea + 1), .bool true, .slice E1 f1 m1, .slice E2 f2 m2, .slice E3 f3 m3] 49))) (by kernel_rfl) (Lib.hid HXd.out.r2) (fun hHeld => ?_)
          refine' take_at 0 (v := _) rfl (by kernel_rfl) (by kernel_rfl) (by kernel_rfl) (fun _ _ _ h => h) rfl ?y25 hHeld ?r25
          case y25 =>
            intro w hSw
            try dsimp only at hSw
            go_simp
            try with_reducible rfl
          try simp only [Act.put, List.setIfInBounds_toArray, List.set_cons_zero, List.set_cons_succ]
          refine' take_at 1 (v := _) rfl (by kernel_rfl) (by kernel_rfl) (by kernel_rfl) (fun _ _ _ h => h) rfl ?y26 hHeld ?r26
          case y26 =>
            intro w hSw
            try dsimp only at hSw
            go_simp
            try with_reducible rfl
          try simp only [Act.put, List.setIfInBounds_toArray, List.set_cons_zero, List.set_cons_succ]
          refine' take_at 3 (v := _) rfl (by kernel_rfl) (by kernel_rfl) (by kernel_rfl) (fun _ _ _ h => h) rfl ?y27 hHeld ?r27
          case y27 =>
            intro w hSw
            try dsimp only at hSw
            have k0 := hSw.out.c 0
            have k1 := hSw.out.c 1
            have k2 := hSw.out.c 2
            have k3 := hSw.out.c 3
            have k4 := hSw.out.c 4
            go_simp
            try with_reducible rfl
          try simp only [Act.put, List.setIfInBounds_toArray, List.set_cons_zero, List.set_cons_succ]
          refine' take_at 4 (v := _) rfl (by kernel_rfl) (by kernel_rfl) (by kernel_rfl) (fun _ _ _ h => h) rfl ?y28 hHeld ?r28
          case y28 =>
            intro w hSw
            try dsimp only at hSw
            go_simp
            try with_reducible rfl
          try simp only [Act.put, List.setIfInBounds_toArray, List.set_cons_zero, List.set_cons_succ]
          refine step_at 2 (by kernel_rfl) rfl rfl (fun K hK => ?_)
          go_simp
          refine (cut16_c (D := D) 0 false _ _ _ A5 n5 c5 _ _ (h5y.out.below ((Below.refl _ _).drew)) hc5).mono ?_
          rintro rr w7 ⟨v1, rfl, hm7, hb7⟩
          have HM7 := Lib.hid hm7
          obtain ⟨B1, p1, k1, B2, p2, k2, B3, p3, k3, rfl, -⟩ := hm7.f
          have HX7 := Lib.hid (HXd.out.below hb7.out)
          have HR := Lib.hid (HX7.out.ret #[.int .i64 0, .bool false, .slice B1 p1 k1, .slice B2 p2 k2, .slice B3 p3 k3] #[.int .i64 (ea + 1), .bool true, .slice E1 f1 m1, .slice E2 f2 m2, .slice E3 f3 m3] 0 0)
          have hS : Hid (BX w7 (g + 1) #[.int .i64 (ea + 1), .bool true, .slice E1 f1 m1, .slice E2 f2 m2, .slice E3 f3 m3] 49) := Lib.hid HX7.out.r2
          clear hHeld
          go_wp2_with fail
          refine hK.out _ _ hS (fun hHeld => ?_)
          clear hK K hS
          try simp only [Act.put, List.setIfInBounds_toArray, List.set_cons_zero, List.set_cons_succ]
          refine step_at 5 (by kernel_rfl) rfl rfl (fun K hK => ?_)
          refine wp_store_row 49 _ _ rfl g #[.int .i64 0, .bool false, .slice B1 p1 k1, .slice B2 p2 k2, .slice B3 p3 k3] rfl rfl 49 _ HX7.out.r1 (half_size _ _ _ _ _) rfl (half_cells _ _ _ _ _ _ _ _ _ _ _) ?_
          refine hK.out _ _ (Lib.hid (row_cells hHeld.out (by omega))) (fun hHeld => ?_)
          clear hK K
          try simp only [Act.put]
          refine step_at 6 (by kernel_rfl) rfl rfl (fun K hK => ?_)
          refine wp_store_row 49 _ _ rfl (g + 1) #[.int .i64 (ea + 1), .bool true, .slice E1 f1 m1, .slice E2 f2 m2, .slice E3 f3 m3] rfl rfl 49 _ hHeld.out (half_size _ _ _ _ _) rfl (half_cells _ _ _ _ _ _ _ _ _ _ _) ?_
          refine hK.out _ _ (Lib.hid (setRow_heap _ _ _ _ _ _ hHeld.out)) (fun hHeld => ?_)
          clear hK K
          try simp only [Act.put]
          refine step_at 7 (by kernel_rfl) rfl rfl (fun K hK => ?_)
          refine wp_store_row 28 _ _ rfl (g + 2) #[.int .i64 0, .int .i64 0] rfl rfl 28 _ (row_cells (row_cells (g := g) HX7.out.r3 (by omega)) (by omega)) (flt_size _ _) rfl (flt_cells _ _) ?_
          refine hK.out _ _ (Lib.hid (row_cells hHeld.out (by omega))) (fun hHeld => ?_)
          clear hK K
          try simp only [Act.put]
          refine wpAnyH_done (by kernel_rfl) ?_ _
          clear hHeld
          go_wp2
          have hmove : ∀ {v : Value} {b : Int} {l : Bool} {l9 : List El}, HfM w7 D v b l l9 → HfM (((w7.setRow g #[.int .i64 0, .bool false, .slice B1 p1 k1, .slice B2 p2 k2, .slice B3 p3 k3]).setRow (g + 1) #[.int .i64 (ea + 1), .bool true, .slice E1 f1 m1, .slice E2 f2 m2, .slice E3 f3 m3]).setRow (g + 2) #[.int .i64 0, .int .i64 0]) D v b l l9 := fun h =>
            ((h.other HX7.out.r1 (noE5 _ _ _ _ _ _ _ _ _ _ _) (by simp) (fun k hk => setRow_other _ _ _ _ hk)).other (row_cells (g := g) HX7.out.r2 (by omega)) (noE5 _ _ _ _ _ _ _ _ _ _ _) (by simp) (fun k hk => setRow_other _ _ _ _ hk)).other (row_cells (row_cells (g := g) HX7.out.r3 (by omega)) (by omega)) (noE2 _ _) (by simp) (fun k hk => setRow_other _ _ _ _ hk)
          exact bodyPost_ret (v := .tuple #[.agg #[.int .i64 0, .bool false, .slice B1 p1 k1, .slice B2 p2 k2, .slice B3 p3 k3], .agg #[.int .i64 (ea + 1), .bool true, .slice E1 f1 m1, .slice E2 f2 m2, .slice E3 f3 m3], .agg #[.int .i64 0, .int .i64 0]]) (results_ccc Tryz.results21 _ _ g _ _ (0, 0) _ rfl HR.out.1 Tryz.underlying49 rfl (half_size _ _ _ _ _) (g + 1) _ _ (0, 0) _ rfl HR.out.2.1 Tryz.underlying49 rfl (half_size _ _ _ _ _) (g + 2) _ _ (0, 0) _ rfl HR.out.2.2.1 Tryz.underlying28 rfl (flt_size _ _)) rfl ⟨_, _, by rw [HF.out], Lib.hid (fun h => absurd (by rw [HF.out]) h), Lib.hid (fun _ => by rw [HES.out]; exact ⟨D, hmove HM7.out, by rw [hsn]; exact hmove (HM12.out.below (((Below.refl _ _).drew).trans hb7.out))⟩), Lib.hid (HGe.out ▸ HR.out.2.2.2)⟩
        | cons f r2 =>
          rw [hsr] at HF
          dsimp only at HF
          have hf0 := snd16_head hsr
          have h9' := Lib.hid (show Pls w12 D A9 n9 (f :: r2) by rw [← hsr]; exact h9.out)
          obtain ⟨ad9, rfl, h09⟩ := pls_none h9'.out
          obtain ⟨ad'', ead2, -, k9, -⟩ := h9'.out.at_ h09
          obtain rfl := Option.some.inj ead2
          obtain ⟨⟨fr, fq, fa⟩, fp⟩ := f
          obtain rfl : fp = false := hf0
          change w12.cell? ad9 = some (.iface 110 (.agg #[.int .i32 fr, .bool fq, .int .i64 fa])) at k9
          clear h9' ead2 h9
          go_wp2_with (first
            | (go_at_call 168; refine (splace_c _ _ _ _).mono ?_; rintro e w13 ⟨rfl, hb13⟩; have HX13 := Lib.hid (HX12.out.below hb13); have z1 := HX13.out.r1; have z2 := row_cells (g := g) (cs := hzV) HX13.out.r2 (by omega); have z3 := row_cells (g := g + 1) (cs := hzV) (row_cells (g := g) (cs := hzV) HX13.out.r3 (by omega)) (by omega); have HR := Lib.hid (HX13.out.ret hzV hzV 4 fa))
            | (refine wpList_store_row rfl 49 _ _ rfl g hzV rfl rfl 49 _ z1 (half_size _ _ _ _ _) rfl (half_cells _ _ _ _ _ _ _ _ _ _ _) ?_)
            | (refine wpList_store_row rfl 49 _ _ rfl (g + 1) hzV rfl rfl 49 _ z2 (half_size _ _ _ _ _) rfl (half_cells _ _ _ _ _ _ _ _ _ _ _) ?_)
            | (refine wpList_store_row rfl 28 _ _ rfl (g + 2) #[.int .i64 4, .int .i64 fa] rfl rfl 28 _ z3 (flt_size _ _) rfl (flt_cells _ _) ?_)
            | fail)
          exact bodyPost_ret (v := .tuple #[.agg hzV, .agg hzV, .agg #[.int .i64 4, .int .i64 fa]]) (results_ccc Tryz.results21 _ _ g _ _ (0, 0) _ rfl HR.out.1 Tryz.underlying49 rfl (half_size _ _ _ _ _) (g + 1) _ _ (0, 0) _ rfl HR.out.2.1 Tryz.underlying49 rfl (half_size _ _ _ _ _) (g + 2) _ _ (0, 0) _ rfl HR.out.2.2.1 Tryz.underlying28 rfl (flt_size _ _)) rfl ⟨_, _, by rw [HF.out], Lib.hid (fun _ => ⟨rfl, rfl⟩), Lib.hid (fun h => absurd h (by rw [HF.out]; simp)), Lib.hid (HGe.out ▸ HR.out.2.2.2)⟩
end Go.Proofs.YtbjelkejifgnfaaGreatDoor
