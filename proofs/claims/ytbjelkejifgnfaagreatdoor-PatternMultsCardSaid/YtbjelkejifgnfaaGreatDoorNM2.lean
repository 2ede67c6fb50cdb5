/-
  NM2: what the program asks of a number part, walked.
-/
import Derived.Test.YtbjelkejifgnfaaGreatDoorMD
set_option maxRecDepth 100000
namespace Go.Proofs.YtbjelkejifgnfaaGreatDoor
open Go.RowKit
set_option maxHeartbeats 4000000 in
theorem cntd_c (m : ByteArray) (sc : Bool) (ex wh fr : ByteArray) (pt : Bool) (ba : ByteArray) (w : World) (hM : Mw w) :
    Calls Tryz.prog 91 #[.agg (ptV m sc ex wh fr pt ba)] w fun e w' => e = .returned (.bool (cntd ⟨bts m, sc, bts ex, bts wh, bts fr, pt, bts ba⟩)) ∧ Below w.heap.size w w' := by
  have HX := Lib.hid (PX.new (m := m) (sc := sc) (ex := ex) (wh := wh) (fr := fr) (pt := pt) (ba := ba) hM)
  obtain ⟨c0, c1, c2, c3, c4, c5, c6⟩ := HX.out.cells
  clear hM
  generalize hW : w.alloc (.cells (ptV m sc ex wh fr pt ba) 119) = W at *
  have HW := Lib.hid hW
  clear hW
  generalize hg : w.heap.size = g at *
  have Hg := Lib.hid hg
  clear hg
  have HER := Lib.hid (show cntd ⟨bts m, sc, bts ex, bts wh, bts fr, pt, bts ba⟩ = (bts m).any (inS8 ⟨#[64]⟩) by rw [in_a64]; rfl)
  have HH := Lib.hid (fun w v hv => has15_c ⟨#[64]⟩ m v w (lo_lit rfl) (by decide) hv)
  go_enter Tryz.func91, Tryz.ntmps91
  go_upto_region 1 with fail
  rw [HW.out, Hg.out]
  refine wp_region_held_drew (S := (fun W : World => Hid (PX w W g m sc ex wh fr pt ba) ∧ W.cell? ⟨g, 0, none⟩ = some (.string m) ∧ W.cell? ⟨g, 1, none⟩ = some (.bool sc) ∧ W.cell? ⟨g, 2, none⟩ = some (.string ex) ∧ W.cell? ⟨g, 3, none⟩ = some (.string wh) ∧ W.cell? ⟨g, 4, none⟩ = some (.string fr) ∧ W.cell? ⟨g, 5, none⟩ = some (.bool pt) ∧ W.cell? ⟨g, 6, none⟩ = some (.string ba))) (by kernel_rfl) (PX.S HX.out.drew) (fun hHeld => ?_)
  clear HX c0 c1 c2 c3 c4 c5 c6
  refine' take_at 0 (v := _) rfl (by kernel_rfl) (by kernel_rfl) (by kernel_rfl) (fun _ _ _ h => h) rfl ?y1 hHeld ?r1
  case y1 =>
    intro w hSw
    try dsimp only at hSw
    go_simp
    try with_reducible rfl
  try simp only [Act.put, List.setIfInBounds_toArray, List.set_cons_zero, List.set_cons_succ]
  refine' take_at 1 (v := _) rfl (by kernel_rfl) (by kernel_rfl) (by kernel_rfl) (fun _ _ _ h => h) rfl ?y2 hHeld ?r2
  case y2 =>
    intro w hSw
    try dsimp only at hSw
    go_simp
    try with_reducible rfl
  try simp only [Act.put, List.setIfInBounds_toArray, List.set_cons_zero, List.set_cons_succ]
  refine step_at 2 (by kernel_rfl) rfl rfl (fun K hK => ?_)
  go_simp
  refine (of_c ⟨#[64]⟩ _).mono ?_
  rintro r wx1 ⟨B1, rfl, hv1, hbx⟩
  have hHX := hHeld.1.out.below hbx
  skip
  clear hHeld hbx
  go_wp2_with fail
  refine hK.out _ _ (PX.S hHX) (fun hHeld => ?_)
  clear hK K hHX
  try simp only [Act.put, List.setIfInBounds_toArray, List.set_cons_zero, List.set_cons_succ]
  refine step_at 3 (by kernel_rfl) rfl rfl (fun K hK => ?_)
  go_simp
  refine (HH.out _ _ hv1).mono ?_
  rintro r wx2 ⟨rfl, hbx⟩
  have hHX := hHeld.1.out.below hbx
  skip
  clear hHeld hbx
  go_wp2_with fail
  refine hK.out _ _ (PX.S hHX) (fun hHeld => ?_)
  clear hK K hHX
  try simp only [Act.put, List.setIfInBounds_toArray, List.set_cons_zero, List.set_cons_succ]
  refine' take_at 4 (v := _) rfl (by kernel_rfl) (by kernel_rfl) (by kernel_rfl) (fun _ _ _ h => h) rfl ?y3 hHeld ?r3
  case y3 =>
    intro w hSw
    try dsimp only at hSw
    go_simp
    try with_reducible rfl
  try simp only [Act.put, List.setIfInBounds_toArray, List.set_cons_zero, List.set_cons_succ]
  refine wpAnyH_done (by kernel_rfl) ?_ _
  obtain ⟨HX, c0, c1, c2, c3, c4, c5, c6⟩ := hHeld
  go_wp2
  go_ret
  rw [HER.out]
  exact ⟨rfl, Hg.out ▸ HX.out.b⟩
set_option maxHeartbeats 4000000 in
theorem er2_c (m : ByteArray) (sc : Bool) (ex wh fr : ByteArray) (pt : Bool) (ba : ByteArray) (w : World) (hM : Mw w) :
    Calls Tryz.prog 81 #[.agg (ptV m sc ex wh fr pt ba)] w fun e w' => e = .returned (.int .i64 ((er2 ⟨bts m, sc, bts ex, bts wh, bts fr, pt, bts ba⟩ : Nat) : Int)) ∧ Below w.heap.size w w' := by
  have HX := Lib.hid (PX.new (m := m) (sc := sc) (ex := ex) (wh := wh) (fr := fr) (pt := pt) (ba := ba) hM)
  obtain ⟨c0, c1, c2, c3, c4, c5, c6⟩ := HX.out.cells
  clear hM
  generalize hW : w.alloc (.cells (ptV m sc ex wh fr pt ba) 119) = W at *
  have HW := Lib.hid hW
  clear hW
  generalize hg : w.heap.size = g at *
  have Hg := Lib.hid hg
  clear hg
  have HER := Lib.hid (show er2 ⟨bts m, sc, bts ex, bts wh, bts fr, pt, bts ba⟩ = if !((bts m).dropWhile (inS8 ⟨#[35, 48, 49, 50, 51, 52, 53, 54, 55, 56, 57, 64, 44, 46]⟩)).isEmpty || (bts fr).any (· == 46) || (pt && fr.toList.isEmpty) then 4 else 0 by rw [in_okB, emp_list]; rfl)
  have HI := Lib.hid (fun w v hv => inRows1a_c ⟨#[35, 48, 49, 50, 51, 52, 53, 54, 55, 56, 57, 64, 44, 46]⟩ m v 161 w hv rfl (by decide))
  have HC := Lib.hid (fun W => contains1_c fr 46 W)
  generalize er2 ⟨bts m, sc, bts ex, bts wh, bts fr, pt, bts ba⟩ = E at *
  generalize ((bts m).dropWhile (inS8 ⟨#[35, 48, 49, 50, 51, 52, 53, 54, 55, 56, 57, 64, 44, 46]⟩)).isEmpty = b1 at *
  have HC : Hid (∀ W, Calls Tryz.prog 105 #[.string fr, .string ⟨#[46]⟩] W fun e w' => e = .returned (.bool ((bts fr).any (· == 46))) ∧ W = w') := HC
  generalize (bts fr).any (· == 46) = b2 at *
  go_enter Tryz.func81, Tryz.ntmps81
  go_upto_region 1 with fail
  rw [HW.out, Hg.out]
  rcases b1 with _ | _
  · refine wp_region_held_drew (S := (fun W : World => Hid (PX w W g m sc ex wh fr pt ba) ∧ W.cell? ⟨g, 0, none⟩ = some (.string m) ∧ W.cell? ⟨g, 1, none⟩ = some (.bool sc) ∧ W.cell? ⟨g, 2, none⟩ = some (.string ex) ∧ W.cell? ⟨g, 3, none⟩ = some (.string wh) ∧ W.cell? ⟨g, 4, none⟩ = some (.string fr) ∧ W.cell? ⟨g, 5, none⟩ = some (.bool pt) ∧ W.cell? ⟨g, 6, none⟩ = some (.string ba))) (by kernel_rfl) (PX.S HX.out.drew) (fun hHeld => ?_)
    clear HX c0 c1 c2 c3 c4 c5 c6
    refine' take_at 0 (v := _) rfl (by kernel_rfl) (by kernel_rfl) (by kernel_rfl) (fun _ _ _ h => h) rfl ?y4 hHeld ?r4
    case y4 =>
      intro w hSw
      try dsimp only at hSw
      go_simp
      try with_reducible rfl
    try simp only [Act.put, List.setIfInBounds_toArray, List.set_cons_zero, List.set_cons_succ]
    refine' take_at 1 (v := _) rfl (by kernel_rfl) (by kernel_rfl) (by kernel_rfl) (fun _ _ _ h => h) rfl ?y5 hHeld ?r5
    case y5 =>
      intro w hSw
      try dsimp only at hSw
      go_simp
      try with_reducible rfl
    try simp only [Act.put, List.setIfInBounds_toArray, List.set_cons_zero, List.set_cons_succ]
    refine step_at 2 (by kernel_rfl) rfl rfl (fun K hK => ?_)
    go_simp
    refine (of_c ⟨#[35, 48, 49, 50, 51, 52, 53, 54, 55, 56, 57, 64, 44, 46]⟩ _).mono ?_
    rintro r wx1 ⟨B1, rfl, hv1, hbx⟩
    have hHX := hHeld.1.out.below hbx
    skip
    clear hHeld hbx
    go_wp2_with fail
    refine hK.out _ _ (PX.S hHX) (fun hHeld => ?_)
    clear hK K hHX
    try simp only [Act.put, List.setIfInBounds_toArray, List.set_cons_zero, List.set_cons_succ]
    refine step_at 3 (by kernel_rfl) rfl rfl (fun K hK => ?_)
    go_simp
    refine hK.out _ _ (PX.S (hHeld.1.out.below (below_new _ _))) (fun hHeld => ?_)
    clear hK K
    try simp only [Act.put, List.setIfInBounds_toArray, List.set_cons_zero, List.set_cons_succ]
    refine step_at 4 (by kernel_rfl) rfl rfl (fun K hK => ?_)
    go_simp
    refine (HI.out _ _ hv1).mono ?_
    rintro r wx2 ⟨rfl, hbx⟩
    have hHX := hHeld.1.out.below hbx
    skip
    clear hHeld hbx
    go_wp2_with fail
    refine hK.out _ _ (PX.S hHX) (fun hHeld => ?_)
    clear hK K hHX
    try simp only [Act.put, List.setIfInBounds_toArray, List.set_cons_zero, List.set_cons_succ]
    refine' take_at 5 (v := _) rfl (by kernel_rfl) (by kernel_rfl) (by kernel_rfl) (fun _ _ _ h => h) rfl ?y6 hHeld ?r6
    case y6 =>
      intro w hSw
      try dsimp only at hSw
      go_simp
      try with_reducible rfl
    try simp only [Act.put, List.setIfInBounds_toArray, List.set_cons_zero, List.set_cons_succ]
    refine' take_at 6 (v := _) rfl (by kernel_rfl) (by kernel_rfl) (by kernel_rfl) (fun _ _ _ h => h) rfl ?y7 hHeld ?r7
    case y7 =>
      intro w hSw
      try dsimp only at hSw
      go_simp
      try with_reducible rfl
    try simp only [Act.put, List.setIfInBounds_toArray, List.set_cons_zero, List.set_cons_succ]
    refine skip_at 7 rfl (by kernel_rfl) (by kernel_rfl) (by kernel_rfl) (fun _ _ _ h => h) rfl hHeld ?_
    try simp only [Act.put, List.setIfInBounds_toArray, List.set_cons_zero, List.set_cons_succ]
    refine skip_at 8 rfl (by kernel_rfl) (by kernel_rfl) (by kernel_rfl) (fun _ _ _ h => h) rfl hHeld ?_
    try simp only [Act.put, List.setIfInBounds_toArray, List.set_cons_zero, List.set_cons_succ]
    refine skip_at 9 rfl (by kernel_rfl) (by kernel_rfl) (by kernel_rfl) (fun _ _ _ h => h) rfl hHeld ?_
    try simp only [Act.put, List.setIfInBounds_toArray, List.set_cons_zero, List.set_cons_succ]
    refine' take_at 10 (v := _) rfl (by kernel_rfl) (by kernel_rfl) (by kernel_rfl) (fun _ _ _ h => h) rfl ?y11 hHeld ?r11
    case y11 =>
      intro w hSw
      try dsimp only at hSw
      go_simp
      try with_reducible rfl
    try simp only [Act.put, List.setIfInBounds_toArray, List.set_cons_zero, List.set_cons_succ]
    refine' take_at 11 (v := _) rfl (by kernel_rfl) (by kernel_rfl) (by kernel_rfl) (fun _ _ _ h => h) rfl ?y12 hHeld ?r12
    case y12 =>
      intro w hSw
      try dsimp only at hSw
      go_simp
      try with_reducible rfl
    try simp only [Act.put, List.setIfInBounds_toArray, List.set_cons_zero, List.set_cons_succ]
    refine skip_at 12 rfl (by kernel_rfl) (by kernel_rfl) (by kernel_rfl) (fun _ _ _ h => h) rfl hHeld ?_
    try simp only [Act.put, List.setIfInBounds_toArray, List.set_cons_zero, List.set_cons_succ]
    refine skip_at 13 rfl (by kernel_rfl) (by kernel_rfl) (by kernel_rfl) (fun _ _ _ h => h) rfl hHeld ?_
    try simp only [Act.put, List.setIfInBounds_toArray, List.set_cons_zero, List.set_cons_succ]
    refine skip_at 14 rfl (by kernel_rfl) (by kernel_rfl) (by kernel_rfl) (fun _ _ _ h => h) rfl hHeld ?_
    try simp only [Act.put, List.setIfInBounds_toArray, List.set_cons_zero, List.set_cons_succ]
    refine skip_at 15 rfl (by kernel_rfl) (by kernel_rfl) (by kernel_rfl) (fun _ _ _ h => h) rfl hHeld ?_
    try simp only [Act.put, List.setIfInBounds_toArray, List.set_cons_zero, List.set_cons_succ]
    refine skip_at 16 rfl (by kernel_rfl) (by kernel_rfl) (by kernel_rfl) (fun _ _ _ h => h) rfl hHeld ?_
    try simp only [Act.put, List.setIfInBounds_toArray, List.set_cons_zero, List.set_cons_succ]
    refine skip_at 17 rfl (by kernel_rfl) (by kernel_rfl) (by kernel_rfl) (fun _ _ _ h => h) rfl hHeld ?_
    try simp only [Act.put, List.setIfInBounds_toArray, List.set_cons_zero, List.set_cons_succ]
    refine skip_at 18 rfl (by kernel_rfl) (by kernel_rfl) (by kernel_rfl) (fun _ _ _ h => h) rfl hHeld ?_
    try simp only [Act.put, List.setIfInBounds_toArray, List.set_cons_zero, List.set_cons_succ]
    refine' take_at 19 (v := _) rfl (by kernel_rfl) (by kernel_rfl) (by kernel_rfl) (fun _ _ _ h => h) rfl ?y20 hHeld ?r20
    case y20 =>
      intro w hSw
      try dsimp only at hSw
      go_simp
      try with_reducible rfl
    try simp only [Act.put, List.setIfInBounds_toArray, List.set_cons_zero, List.set_cons_succ]
    refine wpAnyH_done (by kernel_rfl) ?_ _
    obtain ⟨HX, c0, c1, c2, c3, c4, c5, c6⟩ := hHeld
    go_wp2
    go_ret
    rw [HER.out]
    exact ⟨rfl, Hg.out ▸ HX.out.b⟩
  · rcases b2 with _ | _
    · rcases pt with _ | _
      · refine wp_region_held_drew (S := (fun W : World => Hid (PX w W g m sc ex wh fr false ba) ∧ W.cell? ⟨g, 0, none⟩ = some (.string m) ∧ W.cell? ⟨g, 1, none⟩ = some (.bool sc) ∧ W.cell? ⟨g, 2, none⟩ = some (.string ex) ∧ W.cell? ⟨g, 3, none⟩ = some (.string wh) ∧ W.cell? ⟨g, 4, none⟩ = some (.string fr) ∧ W.cell? ⟨g, 5, none⟩ = some (.bool false) ∧ W.cell? ⟨g, 6, none⟩ = some (.string ba))) (by kernel_rfl) (PX.S HX.out.drew) (fun hHeld => ?_)
        clear HX c0 c1 c2 c3 c4 c5 c6
        refine' take_at 0 (v := _) rfl (by kernel_rfl) (by kernel_rfl) (by kernel_rfl) (fun _ _ _ h => h) rfl ?y21 hHeld ?r21
        case y21 =>
          intro w hSw
          try dsimp only at hSw
          go_simp
          try with_reducible rfl
        try simp only [Act.put, List.setIfInBounds_toArray, List.set_cons_zero, List.set_cons_succ]
        refine' take_at 1 (v := _) rfl (by kernel_rfl) (by kernel_rfl) (by kernel_rfl) (fun _ _ _ h => h) rfl ?y22 hHeld ?r22
        case y22 =>
          intro w hSw
          try dsimp only at hSw
          go_simp
          try with_reducible rfl
        try simp only [Act.put, List.setIfInBounds_toArray, List.set_cons_zero, List.set_cons_succ]
        refine step_at 2 (by kernel_rfl) rfl rfl (fun K hK => ?_)
        go_simp
        refine (of_c ⟨#[35, 48, 49, 50, 51, 52, 53, 54, 55, 56, 57, 64, 44, 46]⟩ _).mono ?_
        rintro r wx1 ⟨B1, rfl, hv1, hbx⟩
        have hHX := hHeld.1.out.below hbx
        skip
        clear hHeld hbx
        go_wp2_with fail
        refine hK.out _ _ (PX.S hHX) (fun hHeld => ?_)
        clear hK K hHX
        try simp only [Act.put, List.setIfInBounds_toArray, List.set_cons_zero, List.set_cons_succ]
        refine step_at 3 (by kernel_rfl) rfl rfl (fun K hK => ?_)
        go_simp
        refine hK.out _ _ (PX.S (hHeld.1.out.below (below_new _ _))) (fun hHeld => ?_)
        clear hK K
        try simp only [Act.put, List.setIfInBounds_toArray, List.set_cons_zero, List.set_cons_succ]
        refine step_at 4 (by kernel_rfl) rfl rfl (fun K hK => ?_)
        go_simp
        refine (HI.out _ _ hv1).mono ?_
        rintro r wx2 ⟨rfl, hbx⟩
        have hHX := hHeld.1.out.below hbx
        skip
        clear hHeld hbx
        go_wp2_with fail
        refine hK.out _ _ (PX.S hHX) (fun hHeld => ?_)
        clear hK K hHX
        try simp only [Act.put, List.setIfInBounds_toArray, List.set_cons_zero, List.set_cons_succ]
        refine' take_at 5 (v := _) rfl (by kernel_rfl) (by kernel_rfl) (by kernel_rfl) (fun _ _ _ h => h) rfl ?y23 hHeld ?r23
        case y23 =>
          intro w hSw
          try dsimp only at hSw
          go_simp
          try with_reducible rfl
        try simp only [Act.put, List.setIfInBounds_toArray, List.set_cons_zero, List.set_cons_succ]
        refine' take_at 6 (v := _) rfl (by kernel_rfl) (by kernel_rfl) (by kernel_rfl) (fun _ _ _ h => h) rfl ?y24 hHeld ?r24
        case y24 =>
          intro w hSw
          try dsimp only at hSw
          go_simp
          try with_reducible rfl
        try simp only [Act.put, List.setIfInBounds_toArray, List.set_cons_zero, List.set_cons_succ]
        refine' take_at 7 (v := _) rfl (by kernel_rfl) (by kernel_rfl) (by kernel_rfl) (fun _ _ _ h => h) rfl ?y25 hHeld ?r25
        case y25 =>
          intro w hSw
          try dsimp only at hSw
          go_simp
          try with_reducible rfl
        try simp only [Act.put, List.setIfInBounds_toArray, List.set_cons_zero, List.set_cons_succ]
        refine' take_at 8 (v := _) rfl (by kernel_rfl) (by kernel_rfl) (by kernel_rfl) (fun _ _ _ h => h) rfl ?y26 hHeld ?r26
        case y26 =>
          intro w hSw
          try dsimp only at hSw
          go_simp
          try with_reducible rfl
        try simp only [Act.put, List.setIfInBounds_toArray, List.set_cons_zero, List.set_cons_succ]
        refine step_at 9 (by kernel_rfl) rfl rfl (fun K hK => ?_)
        go_simp
        refine (HC.out _).mono ?_
        rintro r w1 ⟨rfl, rfl⟩
        go_wp2_with fail
        refine hK.out _ _ hHeld (fun hHeld => ?_)
        clear hK K
        try simp only [Act.put, List.setIfInBounds_toArray, List.set_cons_zero, List.set_cons_succ]
        refine' take_at 10 (v := _) rfl (by kernel_rfl) (by kernel_rfl) (by kernel_rfl) (fun _ _ _ h => h) rfl ?y27 hHeld ?r27
        case y27 =>
          intro w hSw
          try dsimp only at hSw
          go_simp
          try with_reducible rfl
        try simp only [Act.put, List.setIfInBounds_toArray, List.set_cons_zero, List.set_cons_succ]
        refine' take_at 11 (v := _) rfl (by kernel_rfl) (by kernel_rfl) (by kernel_rfl) (fun _ _ _ h => h) rfl ?y28 hHeld ?r28
        case y28 =>
          intro w hSw
          try dsimp only at hSw
          go_simp
          try with_reducible rfl
        try simp only [Act.put, List.setIfInBounds_toArray, List.set_cons_zero, List.set_cons_succ]
        refine' take_at 12 (v := _) rfl (by kernel_rfl) (by kernel_rfl) (by kernel_rfl) (fun _ _ _ h => h) rfl ?y29 hHeld ?r29
        case y29 =>
          intro w hSw
          try dsimp only at hSw
          go_simp
          try with_reducible rfl
        try simp only [Act.put, List.setIfInBounds_toArray, List.set_cons_zero, List.set_cons_succ]
        refine' take_at 13 (v := _) rfl (by kernel_rfl) (by kernel_rfl) (by kernel_rfl) (fun _ _ _ h => h) rfl ?y30 hHeld ?r30
        case y30 =>
          intro w hSw
          try dsimp only at hSw
          go_simp
          try with_reducible rfl
        try simp only [Act.put, List.setIfInBounds_toArray, List.set_cons_zero, List.set_cons_succ]
        refine' take_at 14 (v := _) rfl (by kernel_rfl) (by kernel_rfl) (by kernel_rfl) (fun _ _ _ h => h) rfl ?y31 hHeld ?r31
        case y31 =>
          intro w hSw
          try dsimp only at hSw
          go_simp
          try with_reducible rfl
        try simp only [Act.put, List.setIfInBounds_toArray, List.set_cons_zero, List.set_cons_succ]
        refine skip_at 15 rfl (by kernel_rfl) (by kernel_rfl) (by kernel_rfl) (fun _ _ _ h => h) rfl hHeld ?_
        try simp only [Act.put, List.setIfInBounds_toArray, List.set_cons_zero, List.set_cons_succ]
        refine skip_at 16 rfl (by kernel_rfl) (by kernel_rfl) (by kernel_rfl) (fun _ _ _ h => h) rfl hHeld ?_
        try simp only [Act.put, List.setIfInBounds_toArray, List.set_cons_zero, List.set_cons_succ]
        refine skip_at 17 rfl (by kernel_rfl) (by kernel_rfl) (by kernel_rfl) (fun _ _ _ h => h) rfl hHeld ?_
        try simp only [Act.put, List.setIfInBounds_toArray, List.set_cons_zero, List.set_cons_succ]
        refine' take_at 18 (v := _) rfl (by kernel_rfl) (by kernel_rfl) (by kernel_rfl) (fun _ _ _ h => h) rfl ?y35 hHeld ?r35
        case y35 =>
          intro w hSw
          try dsimp only at hSw
          go_simp
          try with_reducible rfl
        try simp only [Act.put, List.setIfInBounds_toArray, List.set_cons_zero, List.set_cons_succ]
        refine' take_at 19 (v := _) rfl (by kernel_rfl) (by kernel_rfl) (by kernel_rfl) (fun _ _ _ h => h) rfl ?y36 hHeld ?r36
        case y36 =>
          intro w hSw
          try dsimp only at hSw
          go_simp
          try with_reducible rfl
        try simp only [Act.put, List.setIfInBounds_toArray, List.set_cons_zero, List.set_cons_succ]
        refine wpAnyH_done (by kernel_rfl) ?_ _
        obtain ⟨HX, c0, c1, c2, c3, c4, c5, c6⟩ := hHeld
        go_wp2
        go_ret
        rw [HER.out]
        exact ⟨rfl, Hg.out ▸ HX.out.b⟩
      · rcases hb3 : fr.toList.isEmpty with _ | _
        · rw [hb3] at HER
          refine wp_region_held_drew (S := (fun W : World => Hid (PX w W g m sc ex wh fr true ba) ∧ W.cell? ⟨g, 0, none⟩ = some (.string m) ∧ W.cell? ⟨g, 1, none⟩ = some (.bool sc) ∧ W.cell? ⟨g, 2, none⟩ = some (.string ex) ∧ W.cell? ⟨g, 3, none⟩ = some (.string wh) ∧ W.cell? ⟨g, 4, none⟩ = some (.string fr) ∧ W.cell? ⟨g, 5, none⟩ = some (.bool true) ∧ W.cell? ⟨g, 6, none⟩ = some (.string ba))) (by kernel_rfl) (PX.S HX.out.drew) (fun hHeld => ?_)
          clear HX c0 c1 c2 c3 c4 c5 c6
          refine' take_at 0 (v := _) rfl (by kernel_rfl) (by kernel_rfl) (by kernel_rfl) (fun _ _ _ h => h) rfl ?y37 hHeld ?r37
          case y37 =>
            intro w hSw
            try dsimp only at hSw
            go_simp
            try with_reducible rfl
          try simp only [Act.put, List.setIfInBounds_toArray, List.set_cons_zero, List.set_cons_succ]
          refine' take_at 1 (v := _) rfl (by kernel_rfl) (by kernel_rfl) (by kernel_rfl) (fun _ _ _ h => h) rfl ?y38 hHeld ?r38
          case y38 =>
            intro w hSw
            try dsimp only at hSw
            go_simp
            try with_reducible rfl
          try simp only [Act.put, List.setIfInBounds_toArray, List.set_cons_zero, List.set_cons_succ]
          refine step_at 2 (by kernel_rfl) rfl rfl (fun K hK => ?_)
          go_simp
          refine (of_c ⟨#[35, 48, 49, 50, 51, 52, 53, 54, 55, 56, 57, 64, 44, 46]⟩ _).mono ?_
          rintro r wx1 ⟨B1, rfl, hv1, hbx⟩
          have hHX := hHeld.1.out.below hbx
          skip
          clear hHeld hbx
          go_wp2_with fail
          refine hK.out _ _ (PX.S hHX) (fun hHeld => ?_)
          clear hK K hHX
          try simp only [Act.put, List.setIfInBounds_toArray, List.set_cons_zero, List.set_cons_succ]
          refine step_at 3 (by kernel_rfl) rfl rfl (fun K hK => ?_)
          go_simp
          refine hK.out _ _ (PX.S (hHeld.1.out.below (below_new _ _))) (fun hHeld => ?_)
          clear hK K
          try simp only [Act.put, List.setIfInBounds_toArray, List.set_cons_zero, List.set_cons_succ]
          refine step_at 4 (by kernel_rfl) rfl rfl (fun K hK => ?_)
          go_simp
          refine (HI.out _ _ hv1).mono ?_
          rintro r wx2 ⟨rfl, hbx⟩
          have hHX := hHeld.1.out.below hbx
          skip
          clear hHeld hbx
          go_wp2_with fail
          refine hK.out _ _ (PX.S hHX) (fun hHeld => ?_)
          clear hK K hHX
          try simp only [Act.put, List.setIfInBounds_toArray, List.set_cons_zero, List.set_cons_succ]
          refine' take_at 5 (v := _) rfl (by kernel_rfl) (by kernel_rfl) (by kernel_rfl) (fun _ _ _ h => h) rfl ?y39 hHeld ?r39
          case y39 =>
            intro w hSw
            try dsimp only at hSw
            go_simp
            try with_reducible rfl
          try simp only [Act.put, List.setIfInBounds_toArray, List.set_cons_zero, List.set_cons_succ]
          refine' take_at 6 (v := _) rfl (by kernel_rfl) (by kernel_rfl) (by kernel_rfl) (fun _ _ _ h => h) rfl ?y40 hHeld ?r40
          case y40 =>
            intro w hSw
            try dsimp only at hSw
            go_simp
            try with_reducible rfl
          try simp only [Act.put, List.setIfInBounds_toArray, List.set_cons_zero, List.set_cons_succ]
          refine' take_at 7 (v := _) rfl (by kernel_rfl) (by kernel_rfl) (by kernel_rfl) (fun _ _ _ h => h) rfl ?y41 hHeld ?r41
          case y41 =>
            intro w hSw
            try dsimp only at hSw
            go_simp
            try with_reducible rfl
          try simp only [Act.put, List.setIfInBounds_toArray, List.set_cons_zero, List.set_cons_succ]
          refine' take_at 8 (v := _) rfl (by kernel_rfl) (by kernel_rfl) (by kernel_rfl) (fun _ _ _ h => h) rfl ?y42 hHeld ?r42
          case y42 =>
            intro w hSw
            try dsimp only at hSw
            go_simp
            try with_reducible rfl
          try simp only [Act.put, List.setIfInBounds_toArray, List.set_cons_zero, List.set_cons_succ]
          refine step_at 9 (by kernel_rfl) rfl rfl (fun K hK => ?_)
          go_simp
          refine (HC.out _).mono ?_
          rintro r w1 ⟨rfl, rfl⟩
          go_wp2_with fail
          refine hK.out _ _ hHeld (fun hHeld => ?_)
          clear hK K
          try simp only [Act.put, List.setIfInBounds_toArray, List.set_cons_zero, List.set_cons_succ]
          refine' take_at 10 (v := _) rfl (by kernel_rfl) (by kernel_rfl) (by kernel_rfl) (fun _ _ _ h => h) rfl ?y43 hHeld ?r43
          case y43 =>
            intro w hSw
            try dsimp only at hSw
            go_simp
            try with_reducible rfl
          try simp only [Act.put, List.setIfInBounds_toArray, List.set_cons_zero, List.set_cons_succ]
          refine' take_at 11 (v := _) rfl (by kernel_rfl) (by kernel_rfl) (by kernel_rfl) (fun _ _ _ h => h) rfl ?y44 hHeld ?r44
          case y44 =>
            intro w hSw
            try dsimp only at hSw
            go_simp
            try with_reducible rfl
          try simp only [Act.put, List.setIfInBounds_toArray, List.set_cons_zero, List.set_cons_succ]
          refine' take_at 12 (v := _) rfl (by kernel_rfl) (by kernel_rfl) (by kernel_rfl) (fun _ _ _ h => h) rfl ?y45 hHeld ?r45
          case y45 =>
            intro w hSw
            try dsimp only at hSw
            go_simp
            try with_reducible rfl
          try simp only [Act.put, List.setIfInBounds_toArray, List.set_cons_zero, List.set_cons_succ]
          refine' take_at 13 (v := _) rfl (by kernel_rfl) (by kernel_rfl) (by kernel_rfl) (fun _ _ _ h => h) rfl ?y46 hHeld ?r46
          case y46 =>
            intro w hSw
            try dsimp only at hSw
            go_simp
            try with_reducible rfl
          try simp only [Act.put, List.setIfInBounds_toArray, List.set_cons_zero, List.set_cons_succ]
          refine' take_at 14 (v := _) rfl (by kernel_rfl) (by kernel_rfl) (by kernel_rfl) (fun _ _ _ h => h) rfl ?y47 hHeld ?r47
          case y47 =>
            intro w hSw
            try dsimp only at hSw
            go_simp
            try with_reducible rfl
          try simp only [Act.put, List.setIfInBounds_toArray, List.set_cons_zero, List.set_cons_succ]
          refine' take_at 15 (v := _) rfl (by kernel_rfl) (by kernel_rfl) (by kernel_rfl) (fun _ _ _ h => h) rfl ?y48 hHeld ?r48
          case y48 =>
            intro w hSw
            try dsimp only at hSw
            go_simp
            try with_reducible rfl
          try simp only [Act.put, List.setIfInBounds_toArray, List.set_cons_zero, List.set_cons_succ]
          refine' take_at 16 (v := _) rfl (by kernel_rfl) (by kernel_rfl) (by kernel_rfl) (fun _ _ _ h => h) rfl ?y49 hHeld ?r49
          case y49 =>
            intro w hSw
            try dsimp only at hSw
            go_simp
            try with_reducible rfl
          try simp only [Act.put, List.setIfInBounds_toArray, List.set_cons_zero, List.set_cons_succ]
          refine' take_at 17 (v := _) rfl (by kernel_rfl) (by kernel_rfl) (by kernel_rfl) (fun _ _ _ h => h) rfl ?y50 hHeld ?r50
          case y50 =>
            intro w hSw
            try dsimp only at hSw
            go_simp
            try with_reducible rfl
          try simp only [Act.put, List.setIfInBounds_toArray, List.set_cons_zero, List.set_cons_succ]
          refine' take_at 18 (v := _) rfl (by kernel_rfl) (by kernel_rfl) (by kernel_rfl) (fun _ _ _ h => h) rfl ?y51 hHeld ?r51
          case y51 =>
            intro w hSw
            try dsimp only at hSw
            go_simp
            try with_reducible rfl
          try simp only [Act.put, List.setIfInBounds_toArray, List.set_cons_zero, List.set_cons_succ]
          refine' take_at 19 (v := _) rfl (by kernel_rfl) (by kernel_rfl) (by kernel_rfl) (fun _ _ _ h => h) rfl ?y52 hHeld ?r52
          case y52 =>
            intro w hSw
            try dsimp only at hSw
            go_simp
            try with_reducible rfl
          try simp only [Act.put, List.setIfInBounds_toArray, List.set_cons_zero, List.set_cons_succ]
          refine wpAnyH_done (by kernel_rfl) ?_ _
          obtain ⟨HX, c0, c1, c2, c3, c4, c5, c6⟩ := hHeld
          go_wp2
          go_ret
          rw [HER.out]
          exact ⟨rfl, Hg.out ▸ HX.out.b⟩
        · rw [hb3] at HER
          refine wp_region_held_drew (S := (fun W : World => Hid (PX w W g m sc ex wh fr true ba) ∧ W.cell? ⟨g, 0, none⟩ = some (.string m) ∧ W.cell? ⟨g, 1, none⟩ = some (.bool sc) ∧ W.cell? ⟨g, 2, none⟩ = some (.string ex) ∧ W.cell? ⟨g, 3, none⟩ = some (.string wh) ∧ W.cell? ⟨g, 4, none⟩ = some (.string fr) ∧ W.cell? ⟨g, 5, none⟩ = some (.bool true) ∧ W.cell? ⟨g, 6, none⟩ = some (.string ba))) (by kernel_rfl) (PX.S HX.out.drew) (fun hHeld => ?_)
          clear HX c0 c1 c2 c3 c4 c5 c6
          refine' take_at 0 (v := _) rfl (by kernel_rfl) (by kernel_rfl) (by kernel_rfl) (fun _ _ _ h => h) rfl ?y53 hHeld ?r53
          case y53 =>
            intro w hSw
            try dsimp only at hSw
            go_simp
            try with_reducible rfl
          try simp only [Act.put, List.setIfInBounds_toArray, List.set_cons_zero, List.set_cons_succ]
          refine' take_at 1 (v := _) rfl (by kernel_rfl) (by kernel_rfl) (by kernel_rfl) (fun _ _ _ h => h) rfl ?y54 hHeld ?r54
          case y54 =>
            intro w hSw
            try dsimp only at hSw
            go_simp
            try with_reducible rfl
          try simp only [Act.put, List.setIfInBounds_toArray, List.set_cons_zero, List.set_cons_succ]
          refine step_at 2 (by kernel_rfl) rfl rfl (fun K hK => ?_)
          go_simp
          refine (of_c ⟨#[35, 48, 49, 50, 51, 52, 53, 54, 55, 56, 57, 64, 44, 46]⟩ _).mono ?_
          rintro r wx1 ⟨B1, rfl, hv1, hbx⟩
          have hHX := hHeld.1.out.below hbx
          skip
          clear hHeld hbx
          go_wp2_with fail
          refine hK.out _ _ (PX.S hHX) (fun hHeld => ?_)
          clear hK K hHX
          try simp only [Act.put, List.setIfInBounds_toArray, List.set_cons_zero, List.set_cons_succ]
          refine step_at 3 (by kernel_rfl) rfl rfl (fun K hK => ?_)
          go_simp
          refine hK.out _ _ (PX.S (hHeld.1.out.below (below_new _ _))) (fun hHeld => ?_)
          clear hK K
          try simp only [Act.put, List.setIfInBounds_toArray, List.set_cons_zero, List.set_cons_succ]
          refine step_at 4 (by kernel_rfl) rfl rfl (fun K hK => ?_)
          go_simp
          refine (HI.out _ _ hv1).mono ?_
          rintro r wx2 ⟨rfl, hbx⟩
          have hHX := hHeld.1.out.below hbx
          skip
          clear hHeld hbx
          go_wp2_with fail
          refine hK.out _ _ (PX.S hHX) (fun hHeld => ?_)
          clear hK K hHX
          try simp only [Act.put, List.setIfInBounds_toArray, List.set_cons_zero, List.set_cons_succ]
          refine' take_at 5 (v := _) rfl (by kernel_rfl) (by kernel_rfl) (by kernel_rfl) (fun _ _ _ h => h) rfl ?y55 hHeld ?r55
          case y55 =>
            intro w hSw
            try dsimp only at hSw
            go_simp
            try with_reducible rfl
          try simp only [Act.put, List.setIfInBounds_toArray, List.set_cons_zero, List.set_cons_succ]
          refine' take_at 6 (v := _) rfl (by kernel_rfl) (by kernel_rfl) (by kernel_rfl) (fun _ _ _ h => h) rfl ?y56 hHeld ?r56
          case y56 =>
            intro w hSw
            try dsimp only at hSw
            go_simp
            try with_reducible rfl
          try simp only [Act.put, List.setIfInBounds_toArray, List.set_cons_zero, List.set_cons_succ]
          refine' take_at 7 (v := _) rfl (by kernel_rfl) (by kernel_rfl) (by kernel_rfl) (fun _ _ _ h => h) rfl ?y57 hHeld ?r57
          case y57 =>
            intro w hSw
            try dsimp only at hSw
            go_simp
            try with_reducible rfl
          try simp only [Act.put, List.setIfInBounds_toArray, List.set_cons_zero, List.set_cons_succ]
          refine' take_at 8 (v := _) rfl (by kernel_rfl) (by kernel_rfl) (by kernel_rfl) (fun _ _ _ h => h) rfl ?y58 hHeld ?r58
          case y58 =>
            intro w hSw
            try dsimp only at hSw
            go_simp
            try with_reducible rfl
          try simp only [Act.put, List.setIfInBounds_toArray, List.set_cons_zero, List.set_cons_succ]
          refine step_at 9 (by kernel_rfl) rfl rfl (fun K hK => ?_)
          go_simp
          refine (HC.out _).mono ?_
          rintro r w1 ⟨rfl, rfl⟩
          go_wp2_with fail
          refine hK.out _ _ hHeld (fun hHeld => ?_)
          clear hK K
          try simp only [Act.put, List.setIfInBounds_toArray, List.set_cons_zero, List.set_cons_succ]
          refine' take_at 10 (v := _) rfl (by kernel_rfl) (by kernel_rfl) (by kernel_rfl) (fun _ _ _ h => h) rfl ?y59 hHeld ?r59
          case y59 =>
            intro w hSw
            try dsimp only at hSw
            go_simp
            try with_reducible rfl
          try simp only [Act.put, List.setIfInBounds_toArray, List.set_cons_zero, List.set_cons_succ]
          refine' take_at 11 (v := _) rfl (by kernel_rfl) (by kernel_rfl) (by kernel_rfl) (fun _ _ _ h => h) rfl ?y60 hHeld ?r60
          case y60 =>
            intro w hSw
            try dsimp only at hSw
            go_simp
            try with_reducible rfl
          try simp only [Act.put, List.setIfInBounds_toArray, List.set_cons_zero, List.set_cons_succ]
          refine' take_at 12 (v := _) rfl (by kernel_rfl) (by kernel_rfl) (by kernel_rfl) (fun _ _ _ h => h) rfl ?y61 hHeld ?r61
          case y61 =>
            intro w hSw
            try dsimp only at hSw
            go_simp
            try with_reducible rfl
          try simp only [Act.put, List.setIfInBounds_toArray, List.set_cons_zero, List.set_cons_succ]
          refine' take_at 13 (v := _) rfl (by kernel_rfl) (by kernel_rfl) (by kernel_rfl) (fun _ _ _ h => h) rfl ?y62 hHeld ?r62
          case y62 =>
            intro w hSw
            try dsimp only at hSw
            go_simp
            try with_reducible rfl
          try simp only [Act.put, List.setIfInBounds_toArray, List.set_cons_zero, List.set_cons_succ]
          refine' take_at 14 (v := _) rfl (by kernel_rfl) (by kernel_rfl) (by kernel_rfl) (fun _ _ _ h => h) rfl ?y63 hHeld ?r63
          case y63 =>
            intro w hSw
            try dsimp only at hSw
            go_simp
            try with_reducible rfl
          try simp only [Act.put, List.setIfInBounds_toArray, List.set_cons_zero, List.set_cons_succ]
          refine' take_at 15 (v := _) rfl (by kernel_rfl) (by kernel_rfl) (by kernel_rfl) (fun _ _ _ h => h) rfl ?y64 hHeld ?r64
          case y64 =>
            intro w hSw
            try dsimp only at hSw
            go_simp
            try with_reducible rfl
          try simp only [Act.put, List.setIfInBounds_toArray, List.set_cons_zero, List.set_cons_succ]
          refine' take_at 16 (v := _) rfl (by kernel_rfl) (by kernel_rfl) (by kernel_rfl) (fun _ _ _ h => h) rfl ?y65 hHeld ?r65
          case y65 =>
            intro w hSw
            try dsimp only at hSw
            go_simp
            try with_reducible rfl
          try simp only [Act.put, List.setIfInBounds_toArray, List.set_cons_zero, List.set_cons_succ]
          refine' take_at 17 (v := _) rfl (by kernel_rfl) (by kernel_rfl) (by kernel_rfl) (fun _ _ _ h => h) rfl ?y66 hHeld ?r66
          case y66 =>
            intro w hSw
            try dsimp only at hSw
            go_simp
            try with_reducible rfl
          try simp only [Act.put, List.setIfInBounds_toArray, List.set_cons_zero, List.set_cons_succ]
          refine' take_at 18 (v := _) rfl (by kernel_rfl) (by kernel_rfl) (by kernel_rfl) (fun _ _ _ h => h) rfl ?y67 hHeld ?r67
          case y67 =>
            intro w hSw
            try dsimp only at hSw
            go_simp
            try with_reducible rfl
          try simp only [Act.put, List.setIfInBounds_toArray, List.set_cons_zero, List.set_cons_succ]
          refine' take_at 19 (v := _) rfl (by kernel_rfl) (by kernel_rfl) (by kernel_rfl) (fun _ _ _ h => h) rfl ?y68 hHeld ?r68
          case y68 =>
            intro w hSw
            try dsimp only at hSw
            go_simp
            try with_reducible rfl
          try simp only [Act.put, List.setIfInBounds_toArray, List.set_cons_zero, List.set_cons_succ]
          refine wpAnyH_done (by kernel_rfl) ?_ _
          obtain ⟨HX, c0, c1, c2, c3, c4, c5, c6⟩ := hHeld
          go_wp2
          go_ret
          rw [HER.out]
          exact ⟨rfl, Hg.out ▸ HX.out.b⟩
    · refine wp_region_held_drew (S := (fun W : World => Hid (PX w W g m sc ex wh fr pt ba) ∧ W.cell? ⟨g, 0, none⟩ = some (.string m) ∧ W.cell? ⟨g, 1, none⟩ = some (.bool sc) ∧ W.cell? ⟨g, 2, none⟩ = some (.string ex) ∧ W.cell? ⟨g, 3, none⟩ = some (.string wh) ∧ W.cell? ⟨g, 4, none⟩ = some (.string fr) ∧ W.cell? ⟨g, 5, none⟩ = some (.bool pt) ∧ W.cell? ⟨g, 6, none⟩ = some (.string ba))) (by kernel_rfl) (PX.S HX.out.drew) (fun hHeld => ?_)
      clear HX c0 c1 c2 c3 c4 c5 c6
      refine' take_at 0 (v := _) rfl (by kernel_rfl) (by kernel_rfl) (by kernel_rfl) (fun _ _ _ h => h) rfl ?y69 hHeld ?r69
      case y69 =>
        intro w hSw
        try dsimp only at hSw
        go_simp
        try with_reducible rfl
      try simp only [Act.put, List.setIfInBounds_toArray, List.set_cons_zero, List.set_cons_succ]
      refine' take_at 1 (v := _) rfl (by kernel_rfl) (by kernel_rfl) (by kernel_rfl) (fun _ _ _ h => h) rfl ?y70 hHeld ?r70
      case y70 =>
        intro w hSw
        try dsimp only at hSw
        go_simp
        try with_reducible rfl
      try simp only [Act.put, List.setIfInBounds_toArray, List.set_cons_zero, List.set_cons_succ]
      refine step_at 2 (by kernel_rfl) rfl rfl (fun K hK => ?_)
      go_simp
      refine (of_c ⟨#[35, 48, 49, 50, 51, 52, 53, 54, 55, 56, 57, 64, 44, 46]⟩ _).mono ?_
      rintro r wx1 ⟨B1, rfl, hv1, hbx⟩
      have hHX := hHeld.1.out.below hbx
      skip
      clear hHeld hbx
      go_wp2_with fail
      refine hK.out _ _ (PX.S hHX) (fun hHeld => ?_)
      clear hK K hHX
      try simp only [Act.put, List.setIfInBounds_toArray, List.set_cons_zero, List.set_cons_succ]
      refine step_at 3 (by kernel_rfl) rfl rfl (fun K hK => ?_)
      go_simp
      refine hK.out _ _ (PX.S (hHeld.1.out.below (below_new _ _))) (fun hHeld => ?_)
      clear hK K
      try simp only [Act.put, List.setIfInBounds_toArray, List.set_cons_zero, List.set_cons_succ]
      refine step_at 4 (by kernel_rfl) rfl rfl (fun K hK => ?_)
      go_simp
      refine (HI.out _ _ hv1).mono ?_
      rintro r wx2 ⟨rfl, hbx⟩
      have hHX := hHeld.1.out.below hbx
      skip
      clear hHeld hbx
      go_wp2_with fail
      refine hK.out _ _ (PX.S hHX) (fun hHeld => ?_)
      clear hK K hHX
      try simp only [Act.put, List.setIfInBounds_toArray, List.set_cons_zero, List.set_cons_succ]
      refine' take_at 5 (v := _) rfl (by kernel_rfl) (by kernel_rfl) (by kernel_rfl) (fun _ _ _ h => h) rfl ?y71 hHeld ?r71
      case y71 =>
        intro w hSw
        try dsimp only at hSw
        go_simp
        try with_reducible rfl
      try simp only [Act.put, List.setIfInBounds_toArray, List.set_cons_zero, List.set_cons_succ]
      refine' take_at 6 (v := _) rfl (by kernel_rfl) (by kernel_rfl) (by kernel_rfl) (fun _ _ _ h => h) rfl ?y72 hHeld ?r72
      case y72 =>
        intro w hSw
        try dsimp only at hSw
        go_simp
        try with_reducible rfl
      try simp only [Act.put, List.setIfInBounds_toArray, List.set_cons_zero, List.set_cons_succ]
      refine' take_at 7 (v := _) rfl (by kernel_rfl) (by kernel_rfl) (by kernel_rfl) (fun _ _ _ h => h) rfl ?y73 hHeld ?r73
      case y73 =>
        intro w hSw
        try dsimp only at hSw
        go_simp
        try with_reducible rfl
      try simp only [Act.put, List.setIfInBounds_toArray, List.set_cons_zero, List.set_cons_succ]
      refine' take_at 8 (v := _) rfl (by kernel_rfl) (by kernel_rfl) (by kernel_rfl) (fun _ _ _ h => h) rfl ?y74 hHeld ?r74
      case y74 =>
        intro w hSw
        try dsimp only at hSw
        go_simp
        try with_reducible rfl
      try simp only [Act.put, List.setIfInBounds_toArray, List.set_cons_zero, List.set_cons_succ]
      refine step_at 9 (by kernel_rfl) rfl rfl (fun K hK => ?_)
      go_simp
      refine (HC.out _).mono ?_
      rintro r w1 ⟨rfl, rfl⟩
      go_wp2_with fail
      refine hK.out _ _ hHeld (fun hHeld => ?_)
      clear hK K
      try simp only [Act.put, List.setIfInBounds_toArray, List.set_cons_zero, List.set_cons_succ]
      refine' take_at 10 (v := _) rfl (by kernel_rfl) (by kernel_rfl) (by kernel_rfl) (fun _ _ _ h => h) rfl ?y75 hHeld ?r75
      case y75 =>
        intro w hSw
        try dsimp only at hSw
        go_simp
        try with_reducible rfl
      try simp only [Act.put, List.setIfInBounds_toArray, List.set_cons_zero, List.set_cons_succ]
      refine' take_at 11 (v := _) rfl (by kernel_rfl) (by kernel_rfl) (by kernel_rfl) (fun _ _ _ h => h) rfl ?y76 hHeld ?r76
      case y76 =>
        intro w hSw
        try dsimp only at hSw
        go_simp
        try with_reducible rfl
      try simp only [Act.put, List.setIfInBounds_toArray, List.set_cons_zero, List.set_cons_succ]
      refine skip_at 12 rfl (by kernel_rfl) (by kernel_rfl) (by kernel_rfl) (fun _ _ _ h => h) rfl hHeld ?_
      try simp only [Act.put, List.setIfInBounds_toArray, List.set_cons_zero, List.set_cons_succ]
      refine skip_at 13 rfl (by kernel_rfl) (by kernel_rfl) (by kernel_rfl) (fun _ _ _ h => h) rfl hHeld ?_
      try simp only [Act.put, List.setIfInBounds_toArray, List.set_cons_zero, List.set_cons_succ]
      refine skip_at 14 rfl (by kernel_rfl) (by kernel_rfl) (by kernel_rfl) (fun _ _ _ h => h) rfl hHeld ?_
      try simp only [Act.put, List.setIfInBounds_toArray, List.set_cons_zero, List.set_cons_succ]
      refine skip_at 15 rfl (by kernel_rfl) (by kernel_rfl) (by kernel_rfl) (fun _ _ _ h => h) rfl hHeld ?_
      try simp only [Act.put, List.setIfInBounds_toArray, List.set_cons_zero, List.set_cons_succ]
      refine skip_at 16 rfl (by kernel_rfl) (by kernel_rfl) (by kernel_rfl) (fun _ _ _ h => h) rfl hHeld ?_
      try simp only [Act.put, List.setIfInBounds_toArray, List.set_cons_zero, List.set_cons_succ]
      refine skip_at 17 rfl (by kernel_rfl) (by kernel_rfl) (by kernel_rfl) (fun _ _ _ h => h) rfl hHeld ?_
      try simp only [Act.put, List.setIfInBounds_toArray, List.set_cons_zero, List.set_cons_succ]
      refine skip_at 18 rfl (by kernel_rfl) (by kernel_rfl) (by kernel_rfl) (fun _ _ _ h => h) rfl hHeld ?_
      try simp only [Act.put, List.setIfInBounds_toArray, List.set_cons_zero, List.set_cons_succ]
      refine' take_at 19 (v := _) rfl (by kernel_rfl) (by kernel_rfl) (by kernel_rfl) (fun _ _ _ h => h) rfl ?y84 hHeld ?r84
      case y84 =>
        intro w hSw
        try dsimp only at hSw
        go_simp
        try with_reducible rfl
      try simp only [Act.put, List.setIfInBounds_toArray, List.set_cons_zero, List.set_cons_succ]
      refine wpAnyH_done (by kernel_rfl) ?_ _
      obtain ⟨HX, c0, c1, c2, c3, c4, c5, c6⟩ := hHeld
      go_wp2
      go_ret
      rw [HER.out]
      exact ⟨rfl, Hg.out ▸ HX.out.b⟩
set_option maxHeartbeats 4000000 in
theorem er3_c (m : ByteArray) (sc : Bool) (ex wh fr : ByteArray) (pt : Bool) (ba : ByteArray) (w : World) (hM : Mw w) (hs : wh.size < 4294967281) :
    Calls Tryz.prog 82 #[.agg (ptV m sc ex wh fr pt ba)] w fun e w' => e = .returned (.int .i64 ((er3 ⟨bts m, sc, bts ex, bts wh, bts fr, pt, bts ba⟩ : Nat) : Int)) ∧ Below w.heap.size w w' := by
  have HX := Lib.hid (PX.new (m := m) (sc := sc) (ex := ex) (wh := wh) (fr := fr) (pt := pt) (ba := ba) hM)
  obtain ⟨c0, c1, c2, c3, c4, c5, c6⟩ := HX.out.cells
  clear hM
  generalize hW : w.alloc (.cells (ptV m sc ex wh fr pt ba) 119) = W at *
  have HW := Lib.hid hW
  clear hW
  generalize hg : w.heap.size = g at *
  have Hg := Lib.hid hg
  clear hg
  have HER := Lib.hid (show er3 ⟨bts m, sc, bts ex, bts wh, bts fr, pt, bts ba⟩ = if (bts fr).any (inS8 ⟨#[44]⟩) || decide ((bts wh).head? = some 44) || decide ((bts wh).getLast? = some 44) || dblC (bts wh) then 5 else 0 by rw [in_44]; rfl)
  have HH := Lib.hid (fun w v hv => has15_c ⟨#[44]⟩ fr v w (lo_lit rfl) (by decide) hv)
  have H2 : Hid (∀ W, Calls Tryz.prog 70 #[.string wh, .string ⟨#[44]⟩] W fun e w' => e = .returned (.bool (decide ((bts wh).head? = some 44))) ∧ W = w') := Lib.hid (fun W => strPrefix_c wh 44 W)
  have H3 : Hid (∀ W, Calls Tryz.prog 107 #[.string wh, .string ⟨#[44]⟩] W fun e w' => e = .returned (.bool (decide ((bts wh).getLast? = some 44))) ∧ W = w') := Lib.hid (fun W => strSuffix_c wh 44 W hs)
  have H4 := Lib.hid (fun W (h : Mw W) => contains2_c wh W h hs)
  generalize er3 ⟨bts m, sc, bts ex, bts wh, bts fr, pt, bts ba⟩ = E at *
  generalize (bts fr).any (inS8 ⟨#[44]⟩) = b1 at *
  generalize decide ((bts wh).head? = some 44) = b2 at *
  generalize decide ((bts wh).getLast? = some 44) = b3 at *
  generalize dblC (bts wh) = b4 at *
  go_enter Tryz.func82, Tryz.ntmps82
  go_upto_region 1 with fail
  rw [HW.out, Hg.out]
  refine wp_region_held_drew (S := (fun W : World => Hid (PX w W g m sc ex wh fr pt ba) ∧ W.cell? ⟨g, 0, none⟩ = some (.string m) ∧ W.cell? ⟨g, 1, none⟩ = some (.bool sc) ∧ W.cell? ⟨g, 2, none⟩ = some (.string ex) ∧ W.cell? ⟨g, 3, none⟩ = some (.string wh) ∧ W.cell? ⟨g, 4, none⟩ = some (.string fr) ∧ W.cell? ⟨g, 5, none⟩ = some (.bool pt) ∧ W.cell? ⟨g, 6, none⟩ = some (.string ba))) (by kernel_rfl) (PX.S HX.out.drew) (fun hHeld => ?_)
  clear HX c0 c1 c2 c3 c4 c5 c6
  refine' take_at 0 (v := _) rfl (by kernel_rfl) (by kernel_rfl) (by kernel_rfl) (fun _ _ _ h => h) rfl ?y85 hHeld ?r85
  case y85 =>
    intro w hSw
    try dsimp only at hSw
    go_simp
    try with_reducible rfl
  try simp only [Act.put, List.setIfInBounds_toArray, List.set_cons_zero, List.set_cons_succ]
  refine' take_at 1 (v := _) rfl (by kernel_rfl) (by kernel_rfl) (by kernel_rfl) (fun _ _ _ h => h) rfl ?y86 hHeld ?r86
  case y86 =>
    intro w hSw
    try dsimp only at hSw
    go_simp
    try with_reducible rfl
  try simp only [Act.put, List.setIfInBounds_toArray, List.set_cons_zero, List.set_cons_succ]
  refine step_at 2 (by kernel_rfl) rfl rfl (fun K hK => ?_)
  go_simp
  refine (of_c ⟨#[44]⟩ _).mono ?_
  rintro r wx1 ⟨B1, rfl, hv1, hbx⟩
  have hHX := hHeld.1.out.below hbx
  skip
  clear hHeld hbx
  go_wp2_with fail
  refine hK.out _ _ (PX.S hHX) (fun hHeld => ?_)
  clear hK K hHX
  try simp only [Act.put, List.setIfInBounds_toArray, List.set_cons_zero, List.set_cons_succ]
  refine step_at 3 (by kernel_rfl) rfl rfl (fun K hK => ?_)
  go_simp
  refine (HH.out _ _ hv1).mono ?_
  rintro r wx2 ⟨rfl, hbx⟩
  have hHX := hHeld.1.out.below hbx
  skip
  clear hHeld hbx
  go_wp2_with fail
  refine hK.out _ _ (PX.S hHX) (fun hHeld => ?_)
  clear hK K hHX
  try simp only [Act.put, List.setIfInBounds_toArray, List.set_cons_zero, List.set_cons_succ]
  refine' take_at 4 (v := _) rfl (by kernel_rfl) (by kernel_rfl) (by kernel_rfl) (fun _ _ _ h => h) rfl ?y87 hHeld ?r87
  case y87 =>
    intro w hSw
    try dsimp only at hSw
    go_simp
    try with_reducible rfl
  try simp only [Act.put, List.setIfInBounds_toArray, List.set_cons_zero, List.set_cons_succ]
  refine wpAnyH_done (by kernel_rfl) ?_ _
  obtain ⟨HX, c0, c1, c2, c3, c4, c5, c6⟩ := hHeld
  rcases b1 with _ | _
  · rcases b2 with _ | _
    · rcases b3 with _ | _
      · rcases b4 with _ | _
        · go_wp2_with (first
            | (go_at_call 70; refine (H2.out _).mono ?_; rintro e w' ⟨rfl, rfl⟩)
            | (go_at_call 107; refine (H3.out _).mono ?_; rintro e w' ⟨rfl, rfl⟩)
            | (go_at_call 105; refine (H4.out _ HX.out.mw).mono ?_; rintro e w' ⟨rfl, rfl⟩)
            | fail)
          go_ret
          rw [HER.out]
          exact ⟨rfl, Hg.out ▸ HX.out.b⟩
        · go_wp2_with (first
            | (go_at_call 70; refine (H2.out _).mono ?_; rintro e w' ⟨rfl, rfl⟩)
            | (go_at_call 107; refine (H3.out _).mono ?_; rintro e w' ⟨rfl, rfl⟩)
            | (go_at_call 105; refine (H4.out _ HX.out.mw).mono ?_; rintro e w' ⟨rfl, rfl⟩)
            | fail)
          go_ret
          rw [HER.out]
          exact ⟨rfl, Hg.out ▸ HX.out.b⟩
      · go_wp2_with (first
          | (go_at_call 70; refine (H2.out _).mono ?_; rintro e w' ⟨rfl, rfl⟩)
          | (go_at_call 107; refine (H3.out _).mono ?_; rintro e w' ⟨rfl, rfl⟩)
          | (go_at_call 105; refine (H4.out _ HX.out.mw).mono ?_; rintro e w' ⟨rfl, rfl⟩)
          | fail)
        go_ret
        rw [HER.out]
        exact ⟨rfl, Hg.out ▸ HX.out.b⟩
    · go_wp2_with (first
        | (go_at_call 70; refine (H2.out _).mono ?_; rintro e w' ⟨rfl, rfl⟩)
        | (go_at_call 107; refine (H3.out _).mono ?_; rintro e w' ⟨rfl, rfl⟩)
        | (go_at_call 105; refine (H4.out _ HX.out.mw).mono ?_; rintro e w' ⟨rfl, rfl⟩)
        | fail)
      go_ret
      rw [HER.out]
      exact ⟨rfl, Hg.out ▸ HX.out.b⟩
  · go_wp2_with (first
      | (go_at_call 70; refine (H2.out _).mono ?_; rintro e w' ⟨rfl, rfl⟩)
      | (go_at_call 107; refine (H3.out _).mono ?_; rintro e w' ⟨rfl, rfl⟩)
      | (go_at_call 105; refine (H4.out _ HX.out.mw).mono ?_; rintro e w' ⟨rfl, rfl⟩)
      | fail)
    go_ret
    rw [HER.out]
    exact ⟨rfl, Hg.out ▸ HX.out.b⟩
set_option maxHeartbeats 4000000 in
theorem er4_c (m : ByteArray) (sc : Bool) (ex wh fr : ByteArray) (pt : Bool) (ba : ByteArray) (w : World) (hM : Mw w) :
    Calls Tryz.prog 83 #[.agg (ptV m sc ex wh fr pt ba)] w fun e w' => e = .returned (.int .i64 ((er4 ⟨bts m, sc, bts ex, bts wh, bts fr, pt, bts ba⟩ : Nat) : Int)) ∧ Below w.heap.size w w' := by
  have HX := Lib.hid (PX.new (m := m) (sc := sc) (ex := ex) (wh := wh) (fr := fr) (pt := pt) (ba := ba) hM)
  obtain ⟨c0, c1, c2, c3, c4, c5, c6⟩ := HX.out.cells
  clear hM
  generalize hW : w.alloc (.cells (ptV m sc ex wh fr pt ba) 119) = W at *
  have HW := Lib.hid hW
  clear hW
  generalize hg : w.heap.size = g at *
  have Hg := Lib.hid hg
  clear hg
  have HER := Lib.hid (show er4 ⟨bts m, sc, bts ex, bts wh, bts fr, pt, bts ba⟩ = if wh.toList.isEmpty && fr.toList.isEmpty then 4 else 0 by rw [emp_list, emp_list]; rfl)
  generalize er4 ⟨bts m, sc, bts ex, bts wh, bts fr, pt, bts ba⟩ = E at *
  go_enter Tryz.func83, Tryz.ntmps83
  go_upto_region 1 with fail
  rw [HW.out, Hg.out]
  rcases h_b1 : wh.toList.isEmpty with _ | _
  · rw [h_b1] at HER
    go_wp2
    go_ret
    rw [HER.out]
    exact ⟨rfl, Hg.out ▸ HX.out.b⟩
  · rw [h_b1] at HER
    rcases h_b2 : fr.toList.isEmpty with _ | _
    · rw [h_b2] at HER
      go_wp2
      go_ret
      rw [HER.out]
      exact ⟨rfl, Hg.out ▸ HX.out.b⟩
    · rw [h_b2] at HER
      go_wp2
      go_ret
      rw [HER.out]
      exact ⟨rfl, Hg.out ▸ HX.out.b⟩
set_option maxHeartbeats 4000000 in
theorem er5_c (m : ByteArray) (sc : Bool) (ex wh fr : ByteArray) (pt : Bool) (ba : ByteArray) (w : World) (hM : Mw w) :
    Calls Tryz.prog 84 #[.agg (ptV m sc ex wh fr pt ba)] w fun e w' => e = .returned (.int .i64 ((er5 ⟨bts m, sc, bts ex, bts wh, bts fr, pt, bts ba⟩ : Nat) : Int)) ∧ Below w.heap.size w w' := by
  have HX := Lib.hid (PX.new (m := m) (sc := sc) (ex := ex) (wh := wh) (fr := fr) (pt := pt) (ba := ba) hM)
  obtain ⟨c0, c1, c2, c3, c4, c5, c6⟩ := HX.out.cells
  clear hM
  generalize hW : w.alloc (.cells (ptV m sc ex wh fr pt ba) 119) = W at *
  have HW := Lib.hid hW
  clear hW
  generalize hg : w.heap.size = g at *
  have Hg := Lib.hid hg
  clear hg
  have HER := Lib.hid (show er5 ⟨bts m, sc, bts ex, bts wh, bts fr, pt, bts ba⟩ = if !cntd ⟨bts m, sc, bts ex, bts wh, bts fr, pt, bts ba⟩ then 0 else if pt || (bts wh).any (inS8 ⟨#[48, 49, 50, 51, 52, 53, 54, 55, 56, 57]⟩) then 6 else if !((((bts ba).dropWhile (inS8 ⟨#[35]⟩)).dropWhile (inS8 ⟨#[64]⟩)).dropWhile (inS8 ⟨#[35]⟩)).isEmpty then 4 else 0 by
    rw [in_dg, in_h35, in_a64]; rfl)
  have HCT := Lib.hid (fun W (h : Mw W) => cntd_c m sc ex wh fr pt ba W h)
  have HH := Lib.hid (fun w v hv => has15_c ⟨#[48, 49, 50, 51, 52, 53, 54, 55, 56, 57]⟩ wh v w (lo_lit rfl) (by decide) hv)
  have HI := Lib.hid (fun w v v' v'' hv hv' hv'' => inRows3a_c ⟨#[35]⟩ ⟨#[64]⟩ ⟨#[35]⟩ ba v v' v'' 161 w hv hv' hv'' rfl rfl rfl (by decide) (by decide) (by decide))
  generalize er5 ⟨bts m, sc, bts ex, bts wh, bts fr, pt, bts ba⟩ = E at *
  generalize cntd ⟨bts m, sc, bts ex, bts wh, bts fr, pt, bts ba⟩ = bc at *
  generalize (bts wh).any (inS8 ⟨#[48, 49, 50, 51, 52, 53, 54, 55, 56, 57]⟩) = b2 at *
  generalize ((((bts ba).dropWhile (inS8 ⟨#[35]⟩)).dropWhile (inS8 ⟨#[64]⟩)).dropWhile (inS8 ⟨#[35]⟩)).isEmpty = b3 at *
  go_enter Tryz.func84, Tryz.ntmps84
  go_upto_region 1 with fail
  rw [HW.out, Hg.out]
  rcases bc with _ | _
  · go_wp2_with (first
      | (go_at_call 91; refine (HCT.out _ HX.out.mw).mono ?_; rintro e wk ⟨rfl, hbx⟩; have HX := Lib.hid (HX.out.below hbx); obtain ⟨c0, c1, c2, c3, c4, c5, c6⟩ := HX.out.cells; clear hbx)
      | fail)
    go_ret
    rw [HER.out]
    exact ⟨rfl, Hg.out ▸ HX.out.b⟩
  · rcases pt with _ | _
    · rcases b2 with _ | _
      · rcases b3 with _ | _
        · go_wp2_with (first
            | (go_at_call 91; refine (HCT.out _ HX.out.mw).mono ?_; rintro e wk ⟨rfl, hbx⟩; have HX := Lib.hid (HX.out.below hbx); obtain ⟨c0, c1, c2, c3, c4, c5, c6⟩ := HX.out.cells; clear hbx)
            | fail)
          refine wp_region_held_drew (S := (fun W : World => Hid (PX w W g m sc ex wh fr false ba) ∧ W.cell? ⟨g, 0, none⟩ = some (.string m) ∧ W.cell? ⟨g, 1, none⟩ = some (.bool sc) ∧ W.cell? ⟨g, 2, none⟩ = some (.string ex) ∧ W.cell? ⟨g, 3, none⟩ = some (.string wh) ∧ W.cell? ⟨g, 4, none⟩ = some (.string fr) ∧ W.cell? ⟨g, 5, none⟩ = some (.bool false) ∧ W.cell? ⟨g, 6, none⟩ = some (.string ba))) (by kernel_rfl) (PX.S HX.out.drew) (fun hHeld => ?_)
          clear HX c0 c1 c2 c3 c4 c5 c6
          refine' take_at 0 (v := _) rfl (by kernel_rfl) (by kernel_rfl) (by kernel_rfl) (fun _ _ _ h => h) rfl ?y88 hHeld ?r88
          case y88 =>
            intro w hSw
            try dsimp only at hSw
            go_simp
            try with_reducible rfl
          try simp only [Act.put, List.setIfInBounds_toArray, List.set_cons_zero, List.set_cons_succ]
          refine' take_at 1 (v := _) rfl (by kernel_rfl) (by kernel_rfl) (by kernel_rfl) (fun _ _ _ h => h) rfl ?y89 hHeld ?r89
          case y89 =>
            intro w hSw
            try dsimp only at hSw
            go_simp
            try with_reducible rfl
          try simp only [Act.put, List.setIfInBounds_toArray, List.set_cons_zero, List.set_cons_succ]
          refine' take_at 2 (v := _) rfl (by kernel_rfl) (by kernel_rfl) (by kernel_rfl) (fun _ _ _ h => h) rfl ?y90 hHeld ?r90
          case y90 =>
            intro w hSw
            try dsimp only at hSw
            go_simp
            try with_reducible rfl
          try simp only [Act.put, List.setIfInBounds_toArray, List.set_cons_zero, List.set_cons_succ]
          refine' take_at 3 (v := _) rfl (by kernel_rfl) (by kernel_rfl) (by kernel_rfl) (fun _ _ _ h => h) rfl ?y91 hHeld ?r91
          case y91 =>
            intro w hSw
            try dsimp only at hSw
            go_simp
            try with_reducible rfl
          try simp only [Act.put, List.setIfInBounds_toArray, List.set_cons_zero, List.set_cons_succ]
          refine' take_at 4 (v := _) rfl (by kernel_rfl) (by kernel_rfl) (by kernel_rfl) (fun _ _ _ h => h) rfl ?y92 hHeld ?r92
          case y92 =>
            intro w hSw
            try dsimp only at hSw
            go_simp
            try with_reducible rfl
          try simp only [Act.put, List.setIfInBounds_toArray, List.set_cons_zero, List.set_cons_succ]
          refine step_at 5 (by kernel_rfl) rfl rfl (fun K hK => ?_)
          go_simp
          refine (of_c ⟨#[48, 49, 50, 51, 52, 53, 54, 55, 56, 57]⟩ _).mono ?_
          rintro r wx1 ⟨B1, rfl, hv1, hbx⟩
          have hHX := hHeld.1.out.below hbx
          skip
          clear hHeld hbx
          go_wp2_with fail
          refine hK.out _ _ (PX.S hHX) (fun hHeld => ?_)
          clear hK K hHX
          try simp only [Act.put, List.setIfInBounds_toArray, List.set_cons_zero, List.set_cons_succ]
          refine step_at 6 (by kernel_rfl) rfl rfl (fun K hK => ?_)
          go_simp
          refine (HH.out _ _ hv1).mono ?_
          rintro r wx2 ⟨rfl, hbx⟩
          have hHX := hHeld.1.out.below hbx
          skip
          clear hHeld hbx
          go_wp2_with fail
          refine hK.out _ _ (PX.S hHX) (fun hHeld => ?_)
          clear hK K hHX
          try simp only [Act.put, List.setIfInBounds_toArray, List.set_cons_zero, List.set_cons_succ]
          refine' take_at 7 (v := _) rfl (by kernel_rfl) (by kernel_rfl) (by kernel_rfl) (fun _ _ _ h => h) rfl ?y93 hHeld ?r93
          case y93 =>
            intro w hSw
            try dsimp only at hSw
            go_simp
            try with_reducible rfl
          try simp only [Act.put, List.setIfInBounds_toArray, List.set_cons_zero, List.set_cons_succ]
          refine' take_at 8 (v := _) rfl (by kernel_rfl) (by kernel_rfl) (by kernel_rfl) (fun _ _ _ h => h) rfl ?y94 hHeld ?r94
          case y94 =>
            intro w hSw
            try dsimp only at hSw
            go_simp
            try with_reducible rfl
          try simp only [Act.put, List.setIfInBounds_toArray, List.set_cons_zero, List.set_cons_succ]
          refine wpAnyH_done (by kernel_rfl) ?_ _
          obtain ⟨HX, c0, c1, c2, c3, c4, c5, c6⟩ := hHeld
          go_wp2_with fail
          refine wp_region_held_drew (S := (fun W : World => Hid (PX w W g m sc ex wh fr false ba) ∧ W.cell? ⟨g, 0, none⟩ = some (.string m) ∧ W.cell? ⟨g, 1, none⟩ = some (.bool sc) ∧ W.cell? ⟨g, 2, none⟩ = some (.string ex) ∧ W.cell? ⟨g, 3, none⟩ = some (.string wh) ∧ W.cell? ⟨g, 4, none⟩ = some (.string fr) ∧ W.cell? ⟨g, 5, none⟩ = some (.bool false) ∧ W.cell? ⟨g, 6, none⟩ = some (.string ba))) (by kernel_rfl) (PX.S HX.out.drew) (fun hHeld => ?_)
          clear HX c0 c1 c2 c3 c4 c5 c6
          refine' take_at 0 (v := _) rfl (by kernel_rfl) (by kernel_rfl) (by kernel_rfl) (fun _ _ _ h => h) rfl ?y95 hHeld ?r95
          case y95 =>
            intro w hSw
            try dsimp only at hSw
            go_simp
            try with_reducible rfl
          try simp only [Act.put, List.setIfInBounds_toArray, List.set_cons_zero, List.set_cons_succ]
          refine' take_at 1 (v := _) rfl (by kernel_rfl) (by kernel_rfl) (by kernel_rfl) (fun _ _ _ h => h) rfl ?y96 hHeld ?r96
          case y96 =>
            intro w hSw
            try dsimp only at hSw
            go_simp
            try with_reducible rfl
          try simp only [Act.put, List.setIfInBounds_toArray, List.set_cons_zero, List.set_cons_succ]
          refine step_at 2 (by kernel_rfl) rfl rfl (fun K hK => ?_)
          go_simp
          refine (of_c ⟨#[35]⟩ _).mono ?_
          rintro r wx1 ⟨B1, rfl, hv1, hbx⟩
          have hHX := hHeld.1.out.below hbx
          skip
          clear hHeld hbx
          go_wp2_with fail
          refine hK.out _ _ (PX.S hHX) (fun hHeld => ?_)
          clear hK K hHX
          try simp only [Act.put, List.setIfInBounds_toArray, List.set_cons_zero, List.set_cons_succ]
          refine step_at 3 (by kernel_rfl) rfl rfl (fun K hK => ?_)
          go_simp
          refine (of_c ⟨#[64]⟩ _).mono ?_
          rintro r wx2 ⟨B2, rfl, hv2, hbx⟩
          have hHX := hHeld.1.out.below hbx
          have hv1 := hv1.below hbx
          clear hHeld hbx
          go_wp2_with fail
          refine hK.out _ _ (PX.S hHX) (fun hHeld => ?_)
          clear hK K hHX
          try simp only [Act.put, List.setIfInBounds_toArray, List.set_cons_zero, List.set_cons_succ]
          refine step_at 4 (by kernel_rfl) rfl rfl (fun K hK => ?_)
          go_simp
          refine (of_c ⟨#[35]⟩ _).mono ?_
          rintro r wx3 ⟨B3, rfl, hv3, hbx⟩
          have hHX := hHeld.1.out.below hbx
          have hv1 := hv1.below hbx
          have hv2 := hv2.below hbx
          clear hHeld hbx
          go_wp2_with fail
          refine hK.out _ _ (PX.S hHX) (fun hHeld => ?_)
          clear hK K hHX
          try simp only [Act.put, List.setIfInBounds_toArray, List.set_cons_zero, List.set_cons_succ]
          refine step_at 5 (by kernel_rfl) rfl rfl (fun K hK => ?_)
          go_simp
          refine hK.out _ _ (PX.S (hHeld.1.out.below (below_new _ _))) (fun hHeld => ?_)
          clear hK K
          try simp only [Act.put, List.setIfInBounds_toArray, List.set_cons_zero, List.set_cons_succ]
          refine step_at 6 (by kernel_rfl) rfl rfl (fun K hK => ?_)
          go_simp
          refine (HI.out _ _ _ _ hv1 hv2 hv3).mono ?_
          rintro r wx4 ⟨rfl, hbx⟩
          have hHX := hHeld.1.out.below hbx
          skip
          clear hHeld hbx
          go_wp2_with fail
          refine hK.out _ _ (PX.S hHX) (fun hHeld => ?_)
          clear hK K hHX
          try simp only [Act.put, List.setIfInBounds_toArray, List.set_cons_zero, List.set_cons_succ]
          refine' take_at 7 (v := _) rfl (by kernel_rfl) (by kernel_rfl) (by kernel_rfl) (fun _ _ _ h => h) rfl ?y97 hHeld ?r97
          case y97 =>
            intro w hSw
            try dsimp only at hSw
            go_simp
            try with_reducible rfl
          try simp only [Act.put, List.setIfInBounds_toArray, List.set_cons_zero, List.set_cons_succ]
          refine' take_at 8 (v := _) rfl (by kernel_rfl) (by kernel_rfl) (by kernel_rfl) (fun _ _ _ h => h) rfl ?y98 hHeld ?r98
          case y98 =>
            intro w hSw
            try dsimp only at hSw
            go_simp
            try with_reducible rfl
          try simp only [Act.put, List.setIfInBounds_toArray, List.set_cons_zero, List.set_cons_succ]
          refine wpAnyH_done (by kernel_rfl) ?_ _
          obtain ⟨HX, c0, c1, c2, c3, c4, c5, c6⟩ := hHeld
          go_wp2
          go_ret
          rw [HER.out]
          exact ⟨rfl, Hg.out ▸ HX.out.b⟩
        · go_wp2_with (first
            | (go_at_call 91; refine (HCT.out _ HX.out.mw).mono ?_; rintro e wk ⟨rfl, hbx⟩; have HX := Lib.hid (HX.out.below hbx); obtain ⟨c0, c1, c2, c3, c4, c5, c6⟩ := HX.out.cells; clear hbx)
            | fail)
          refine wp_region_held_drew (S := (fun W : World => Hid (PX w W g m sc ex wh fr false ba) ∧ W.cell? ⟨g, 0, none⟩ = some (.string m) ∧ W.cell? ⟨g, 1, none⟩ = some (.bool sc) ∧ W.cell? ⟨g, 2, none⟩ = some (.string ex) ∧ W.cell? ⟨g, 3, none⟩ = some (.string wh) ∧ W.cell? ⟨g, 4, none⟩ = some (.string fr) ∧ W.cell? ⟨g, 5, none⟩ = some (.bool false) ∧ W.cell? ⟨g, 6, none⟩ = some (.string ba))) (by kernel_rfl) (PX.S HX.out.drew) (fun hHeld => ?_)
          clear HX c0 c1 c2 c3 c4 c5 c6
          refine' take_at 0 (v := _) rfl (by kernel_rfl) (by kernel_rfl) (by kernel_rfl) (fun _ _ _ h => h) rfl ?y99 hHeld ?r99
          case y99 =>
            intro w hSw
            try dsimp only at hSw
            go_simp
            try with_reducible rfl
          try simp only [Act.put, List.setIfInBounds_toArray, List.set_cons_zero, List.set_cons_succ]
          refine' take_at 1 (v := _) rfl (by kernel_rfl) (by kernel_rfl) (by kernel_rfl) (fun _ _ _ h => h) rfl ?y100 hHeld ?r100
          case y100 =>
            intro w hSw
            try dsimp only at hSw
            go_simp
            try with_reducible rfl
          try simp only [Act.put, List.setIfInBounds_toArray, List.set_cons_zero, List.set_cons_succ]
          refine' take_at 2 (v := _) rfl (by kernel_rfl) (by kernel_rfl) (by kernel_rfl) (fun _ _ _ h => h) rfl ?y101 hHeld ?r101
          case y101 =>
            intro w hSw
            try dsimp only at hSw
            go_simp
            try with_reducible rfl
          try simp only [Act.put, List.setIfInBounds_toArray, List.set_cons_zero, List.set_cons_succ]
          refine' take_at 3 (v := _) rfl (by kernel_rfl) (by kernel_rfl) (by kernel_rfl) (fun _ _ _ h => h) rfl ?y102 hHeld ?r102
          case y102 =>
            intro w hSw
            try dsimp only at hSw
            go_simp
            try with_reducible rfl
          try simp only [Act.put, List.setIfInBounds_toArray, List.set_cons_zero, List.set_cons_succ]
          refine' take_at 4 (v := _) rfl (by kernel_rfl) (by kernel_rfl) (by kernel_rfl) (fun _ _ _ h => h) rfl ?y103 hHeld ?r103
          case y103 =>
            intro w hSw
            try dsimp only at hSw
            go_simp
            try with_reducible rfl
          try simp only [Act.put, List.setIfInBounds_toArray, List.set_cons_zero, List.set_cons_succ]
          refine step_at 5 (by kernel_rfl) rfl rfl (fun K hK => ?_)
          go_simp
          refine (of_c ⟨#[48, 49, 50, 51, 52, 53, 54, 55, 56, 57]⟩ _).mono ?_
          rintro r wx1 ⟨B1, rfl, hv1, hbx⟩
          have hHX := hHeld.1.out.below hbx
          skip
          clear hHeld hbx
          go_wp2_with fail
          refine hK.out _ _ (PX.S hHX) (fun hHeld => ?_)
          clear hK K hHX
          try simp only [Act.put, List.setIfInBounds_toArray, List.set_cons_zero, List.set_cons_succ]
          refine step_at 6 (by kernel_rfl) rfl rfl (fun K hK => ?_)
          go_simp
          refine (HH.out _ _ hv1).mono ?_
          rintro r wx2 ⟨rfl, hbx⟩
          have hHX := hHeld.1.out.below hbx
          skip
          clear hHeld hbx
          go_wp2_with fail
          refine hK.out _ _ (PX.S hHX) (fun hHeld => ?_)
          clear hK K hHX
          try simp only [Act.put, List.setIfInBounds_toArray, List.set_cons_zero, List.set_cons_succ]
          refine' take_at 7 (v := _) rfl (by kernel_rfl) (by kernel_rfl) (by kernel_rfl) (fun _ _ _ h => h) rfl ?y104 hHeld ?r104
          case y104 =>
            intro w hSw
            try dsimp only at hSw
            go_simp
            try with_reducible rfl
          try simp only [Act.put, List.setIfInBounds_toArray, List.set_cons_zero, List.set_cons_succ]
          refine' take_at 8 (v := _) rfl (by kernel_rfl) (by kernel_rfl) (by kernel_rfl) (fun _ _ _ h => h) rfl ?y105 hHeld ?r105
          case y105 =>
            intro w hSw
            try dsimp only at hSw
            go_simp
            try with_reducible rfl
          try simp only [Act.put, List.setIfInBounds_toArray, List.set_cons_zero, List.set_cons_succ]
          refine wpAnyH_done (by kernel_rfl) ?_ _
          obtain ⟨HX, c0, c1, c2, c3, c4, c5, c6⟩ := hHeld
          go_wp2_with fail
          refine wp_region_held_drew (S := (fun W : World => Hid (PX w W g m sc ex wh fr false ba) ∧ W.cell? ⟨g, 0, none⟩ = some (.string m) ∧ W.cell? ⟨g, 1, none⟩ = some (.bool sc) ∧ W.cell? ⟨g, 2, none⟩ = some (.string ex) ∧ W.cell? ⟨g, 3, none⟩ = some (.string wh) ∧ W.cell? ⟨g, 4, none⟩ = some (.string fr) ∧ W.cell? ⟨g, 5, none⟩ = some (.bool false) ∧ W.cell? ⟨g, 6, none⟩ = some (.string ba))) (by kernel_rfl) (PX.S HX.out.drew) (fun hHeld => ?_)
          clear HX c0 c1 c2 c3 c4 c5 c6
          refine' take_at 0 (v := _) rfl (by kernel_rfl) (by kernel_rfl) (by kernel_rfl) (fun _ _ _ h => h) rfl ?y106 hHeld ?r106
          case y106 =>
            intro w hSw
            try dsimp only at hSw
            go_simp
            try with_reducible rfl
          try simp only [Act.put, List.setIfInBounds_toArray, List.set_cons_zero, List.set_cons_succ]
          refine' take_at 1 (v := _) rfl (by kernel_rfl) (by kernel_rfl) (by kernel_rfl) (fun _ _ _ h => h) rfl ?y107 hHeld ?r107
          case y107 =>
            intro w hSw
            try dsimp only at hSw
            go_simp
            try with_reducible rfl
          try simp only [Act.put, List.setIfInBounds_toArray, List.set_cons_zero, List.set_cons_succ]
          refine step_at 2 (by kernel_rfl) rfl rfl (fun K hK => ?_)
          go_simp
          refine (of_c ⟨#[35]⟩ _).mono ?_
          rintro r wx1 ⟨B1, rfl, hv1, hbx⟩
          have hHX := hHeld.1.out.below hbx
          skip
          clear hHeld hbx
          go_wp2_with fail
          refine hK.out _ _ (PX.S hHX) (fun hHeld => ?_)
          clear hK K hHX
          try simp only [Act.put, List.setIfInBounds_toArray, List.set_cons_zero, List.set_cons_succ]
          refine step_at 3 (by kernel_rfl) rfl rfl (fun K hK => ?_)
          go_simp
          refine (of_c ⟨#[64]⟩ _).mono ?_
          rintro r wx2 ⟨B2, rfl, hv2, hbx⟩
          have hHX := hHeld.1.out.below hbx
          have hv1 := hv1.below hbx
          clear hHeld hbx
          go_wp2_with fail
          refine hK.out _ _ (PX.S hHX) (fun hHeld => ?_)
          clear hK K hHX
          try simp only [Act.put, List.setIfInBounds_toArray, List.set_cons_zero, List.set_cons_succ]
          refine step_at 4 (by kernel_rfl) rfl rfl (fun K hK => ?_)
          go_simp
          refine (of_c ⟨#[35]⟩ _).mono ?_
          rintro r wx3 ⟨B3, rfl, hv3, hbx⟩
          have hHX := hHeld.1.out.below hbx
          have hv1 := hv1.below hbx
          have hv2 := hv2.below hbx
          clear hHeld hbx
          go_wp2_with fail
          refine hK.out _ _ (PX.S hHX) (fun hHeld => ?_)
          clear hK K hHX
          try simp only [Act.put, List.setIfInBounds_toArray, List.set_cons_zero, List.set_cons_succ]
          refine step_at 5 (by kernel_rfl) rfl rfl (fun K hK => ?_)
          go_simp
          refine hK.out _ _ (PX.S (hHeld.1.out.below (below_new _ _))) (fun hHeld => ?_)
          clear hK K
          try simp only [Act.put, List.setIfInBounds_toArray, List.set_cons_zero, List.set_cons_succ]
          refine step_at 6 (by kernel_rfl) rfl rfl (fun K hK => ?_)
          go_simp
          refine (HI.out _ _ _ _ hv1 hv2 hv3).mono ?_
          rintro r wx4 ⟨rfl, hbx⟩
          have hHX := hHeld.1.out.below hbx
          skip
          clear hHeld hbx
          go_wp2_with fail
          refine hK.out _ _ (PX.S hHX) (fun hHeld => ?_)
          clear hK K hHX
          try simp only [Act.put, List.setIfInBounds_toArray, List.set_cons_zero, List.set_cons_succ]
          refine' take_at 7 (v := _) rfl (by kernel_rfl) (by kernel_rfl) (by kernel_rfl) (fun _ _ _ h => h) rfl ?y108 hHeld ?r108
          case y108 =>
            intro w hSw
            try dsimp only at hSw
            go_simp
            try with_reducible rfl
          try simp only [Act.put, List.setIfInBounds_toArray, List.set_cons_zero, List.set_cons_succ]
          refine' take_at 8 (v := _) rfl (by kernel_rfl) (by kernel_rfl) (by kernel_rfl) (fun _ _ _ h => h) rfl ?y109 hHeld ?r109
          case y109 =>
            intro w hSw
            try dsimp only at hSw
            go_simp
            try with_reducible rfl
          try simp only [Act.put, List.setIfInBounds_toArray, List.set_cons_zero, List.set_cons_succ]
          refine wpAnyH_done (by kernel_rfl) ?_ _
          obtain ⟨HX, c0, c1, c2, c3, c4, c5, c6⟩ := hHeld
          go_wp2
          go_ret
          rw [HER.out]
          exact ⟨rfl, Hg.out ▸ HX.out.b⟩
      · go_wp2_with (first
          | (go_at_call 91; refine (HCT.out _ HX.out.mw).mono ?_; rintro e wk ⟨rfl, hbx⟩; have HX := Lib.hid (HX.out.below hbx); obtain ⟨c0, c1, c2, c3, c4, c5, c6⟩ := HX.out.cells; clear hbx)
          | fail)
        refine wp_region_held_drew (S := (fun W : World => Hid (PX w W g m sc ex wh fr false ba) ∧ W.cell? ⟨g, 0, none⟩ = some (.string m) ∧ W.cell? ⟨g, 1, none⟩ = some (.bool sc) ∧ W.cell? ⟨g, 2, none⟩ = some (.string ex) ∧ W.cell? ⟨g, 3, none⟩ = some (.string wh) ∧ W.cell? ⟨g, 4, none⟩ = some (.string fr) ∧ W.cell? ⟨g, 5, none⟩ = some (.bool false) ∧ W.cell? ⟨g, 6, none⟩ = some (.string ba))) (by kernel_rfl) (PX.S HX.out.drew) (fun hHeld => ?_)
        clear HX c0 c1 c2 c3 c4 c5 c6
        refine' take_at 0 (v := _) rfl (by kernel_rfl) (by kernel_rfl) (by kernel_rfl) (fun _ _ _ h => h) rfl ?y110 hHeld ?r110
        case y110 =>
          intro w hSw
          try dsimp only at hSw
          go_simp
          try with_reducible rfl
        try simp only [Act.put, List.setIfInBounds_toArray, List.set_cons_zero, List.set_cons_succ]
        refine' take_at 1 (v := _) rfl (by kernel_rfl) (by kernel_rfl) (by kernel_rfl) (fun _ _ _ h => h) rfl ?y111 hHeld ?r111
        case y111 =>
          intro w hSw
          try dsimp only at hSw
          go_simp
          try with_reducible rfl
        try simp only [Act.put, List.setIfInBounds_toArray, List.set_cons_zero, List.set_cons_succ]
        refine' take_at 2 (v := _) rfl (by kernel_rfl) (by kernel_rfl) (by kernel_rfl) (fun _ _ _ h => h) rfl ?y112 hHeld ?r112
        case y112 =>
          intro w hSw
          try dsimp only at hSw
          go_simp
          try with_reducible rfl
        try simp only [Act.put, List.setIfInBounds_toArray, List.set_cons_zero, List.set_cons_succ]
        refine' take_at 3 (v := _) rfl (by kernel_rfl) (by kernel_rfl) (by kernel_rfl) (fun _ _ _ h => h) rfl ?y113 hHeld ?r113
        case y113 =>
          intro w hSw
          try dsimp only at hSw
          go_simp
          try with_reducible rfl
        try simp only [Act.put, List.setIfInBounds_toArray, List.set_cons_zero, List.set_cons_succ]
        refine' take_at 4 (v := _) rfl (by kernel_rfl) (by kernel_rfl) (by kernel_rfl) (fun _ _ _ h => h) rfl ?y114 hHeld ?r114
        case y114 =>
          intro w hSw
          try dsimp only at hSw
          go_simp
          try with_reducible rfl
        try simp only [Act.put, List.setIfInBounds_toArray, List.set_cons_zero, List.set_cons_succ]
        refine step_at 5 (by kernel_rfl) rfl rfl (fun K hK => ?_)
        go_simp
        refine (of_c ⟨#[48, 49, 50, 51, 52, 53, 54, 55, 56, 57]⟩ _).mono ?_
        rintro r wx1 ⟨B1, rfl, hv1, hbx⟩
        have hHX := hHeld.1.out.below hbx
        skip
        clear hHeld hbx
        go_wp2_with fail
        refine hK.out _ _ (PX.S hHX) (fun hHeld => ?_)
        clear hK K hHX
        try simp only [Act.put, List.setIfInBounds_toArray, List.set_cons_zero, List.set_cons_succ]
        refine step_at 6 (by kernel_rfl) rfl rfl (fun K hK => ?_)
        go_simp
        refine (HH.out _ _ hv1).mono ?_
        rintro r wx2 ⟨rfl, hbx⟩
        have hHX := hHeld.1.out.below hbx
        skip
        clear hHeld hbx
        go_wp2_with fail
        refine hK.out _ _ (PX.S hHX) (fun hHeld => ?_)
        clear hK K hHX
        try simp only [Act.put, List.setIfInBounds_toArray, List.set_cons_zero, List.set_cons_succ]
        refine' take_at 7 (v := _) rfl (by kernel_rfl) (by kernel_rfl) (by kernel_rfl) (fun _ _ _ h => h) rfl ?y115 hHeld ?r115
        case y115 =>
          intro w hSw
          try dsimp only at hSw
          go_simp
          try with_reducible rfl
        try simp only [Act.put, List.setIfInBounds_toArray, List.set_cons_zero, List.set_cons_succ]
        refine' take_at 8 (v := _) rfl (by kernel_rfl) (by kernel_rfl) (by kernel_rfl) (fun _ _ _ h => h) rfl ?y116 hHeld ?r116
        case y116 =>
          intro w hSw
          try dsimp only at hSw
          go_simp
          try with_reducible rfl
        try simp only [Act.put, List.setIfInBounds_toArray, List.set_cons_zero, List.set_cons_succ]
        refine wpAnyH_done (by kernel_rfl) ?_ _
        obtain ⟨HX, c0, c1, c2, c3, c4, c5, c6⟩ := hHeld
        go_wp2
        go_ret
        rw [HER.out]
        exact ⟨rfl, Hg.out ▸ HX.out.b⟩
    · go_wp2_with (first
        | (go_at_call 91; refine (HCT.out _ HX.out.mw).mono ?_; rintro e wk ⟨rfl, hbx⟩; have HX := Lib.hid (HX.out.below hbx); obtain ⟨c0, c1, c2, c3, c4, c5, c6⟩ := HX.out.cells; clear hbx)
        | fail)
      refine wp_region_held_drew (S := (fun W : World => Hid (PX w W g m sc ex wh fr true ba) ∧ W.cell? ⟨g, 0, none⟩ = some (.string m) ∧ W.cell? ⟨g, 1, none⟩ = some (.bool sc) ∧ W.cell? ⟨g, 2, none⟩ = some (.string ex) ∧ W.cell? ⟨g, 3, none⟩ = some (.string wh) ∧ W.cell? ⟨g, 4, none⟩ = some (.string fr) ∧ W.cell? ⟨g, 5, none⟩ = some (.bool true) ∧ W.cell? ⟨g, 6, none⟩ = some (.string ba))) (by kernel_rfl) (PX.S HX.out.drew) (fun hHeld => ?_)
      clear HX c0 c1 c2 c3 c4 c5 c6
      refine' take_at 0 (v := _) rfl (by kernel_rfl) (by kernel_rfl) (by kernel_rfl) (fun _ _ _ h => h) rfl ?y117 hHeld ?r117
      case y117 =>
        intro w hSw
        try dsimp only at hSw
        go_simp
        try with_reducible rfl
      try simp only [Act.put, List.setIfInBounds_toArray, List.set_cons_zero, List.set_cons_succ]
      refine' take_at 1 (v := _) rfl (by kernel_rfl) (by kernel_rfl) (by kernel_rfl) (fun _ _ _ h => h) rfl ?y118 hHeld ?r118
      case y118 =>
        intro w hSw
        try dsimp only at hSw
        go_simp
        try with_reducible rfl
      try simp only [Act.put, List.setIfInBounds_toArray, List.set_cons_zero, List.set_cons_succ]
      refine' take_at 2 (v := _) rfl (by kernel_rfl) (by kernel_rfl) (by kernel_rfl) (fun _ _ _ h => h) rfl ?y119 hHeld ?r119
      case y119 =>
        intro w hSw
        try dsimp only at hSw
        go_simp
        try with_reducible rfl
      try simp only [Act.put, List.setIfInBounds_toArray, List.set_cons_zero, List.set_cons_succ]
      refine skip_at 3 rfl (by kernel_rfl) (by kernel_rfl) (by kernel_rfl) (fun _ _ _ h => h) rfl hHeld ?_
      try simp only [Act.put, List.setIfInBounds_toArray, List.set_cons_zero, List.set_cons_succ]
      refine skip_at 4 rfl (by kernel_rfl) (by kernel_rfl) (by kernel_rfl) (fun _ _ _ h => h) rfl hHeld ?_
      try simp only [Act.put, List.setIfInBounds_toArray, List.set_cons_zero, List.set_cons_succ]
      refine skip_at 5 rfl (by kernel_rfl) (by kernel_rfl) (by kernel_rfl) (fun _ _ _ h => h) rfl hHeld ?_
      try simp only [Act.put, List.setIfInBounds_toArray, List.set_cons_zero, List.set_cons_succ]
      refine skip_at 6 rfl (by kernel_rfl) (by kernel_rfl) (by kernel_rfl) (fun _ _ _ h => h) rfl hHeld ?_
      try simp only [Act.put, List.setIfInBounds_toArray, List.set_cons_zero, List.set_cons_succ]
      refine' take_at 7 (v := _) rfl (by kernel_rfl) (by kernel_rfl) (by kernel_rfl) (fun _ _ _ h => h) rfl ?y124 hHeld ?r124
      case y124 =>
        intro w hSw
        try dsimp only at hSw
        go_simp
        try with_reducible rfl
      try simp only [Act.put, List.setIfInBounds_toArray, List.set_cons_zero, List.set_cons_succ]
      refine' take_at 8 (v := _) rfl (by kernel_rfl) (by kernel_rfl) (by kernel_rfl) (fun _ _ _ h => h) rfl ?y125 hHeld ?r125
      case y125 =>
        intro w hSw
        try dsimp only at hSw
        go_simp
        try with_reducible rfl
      try simp only [Act.put, List.setIfInBounds_toArray, List.set_cons_zero, List.set_cons_succ]
      refine wpAnyH_done (by kernel_rfl) ?_ _
      obtain ⟨HX, c0, c1, c2, c3, c4, c5, c6⟩ := hHeld
      go_wp2
      go_ret
      rw [HER.out]
      exact ⟨rfl, Hg.out ▸ HX.out.b⟩
set_option maxHeartbeats 4000000 in
theorem er6_c (m : ByteArray) (sc : Bool) (ex wh fr : ByteArray) (pt : Bool) (ba : ByteArray) (w : World) (hM : Mw w) :
    Calls Tryz.prog 85 #[.agg (ptV m sc ex wh fr pt ba)] w fun e w' => e = .returned (.int .i64 ((er6 ⟨bts m, sc, bts ex, bts wh, bts fr, pt, bts ba⟩ : Nat) : Int)) ∧ Below w.heap.size w w' := by
  have HX := Lib.hid (PX.new (m := m) (sc := sc) (ex := ex) (wh := wh) (fr := fr) (pt := pt) (ba := ba) hM)
  obtain ⟨c0, c1, c2, c3, c4, c5, c6⟩ := HX.out.cells
  clear hM
  generalize hW : w.alloc (.cells (ptV m sc ex wh fr pt ba) 119) = W at *
  have HW := Lib.hid hW
  clear hW
  generalize hg : w.heap.size = g at *
  have Hg := Lib.hid hg
  clear hg
  have HER := Lib.hid (show er6 ⟨bts m, sc, bts ex, bts wh, bts fr, pt, bts ba⟩ = if !cntd ⟨bts m, sc, bts ex, bts wh, bts fr, pt, bts ba⟩ && !((((bts ba).dropWhile (inS8 ⟨#[35]⟩)).dropWhile (inS8 ⟨#[48, 49, 50, 51, 52, 53, 54, 55, 56, 57]⟩)).isEmpty && (((bts fr).dropWhile (inS8 ⟨#[48, 49, 50, 51, 52, 53, 54, 55, 56, 57]⟩)).dropWhile (inS8 ⟨#[35]⟩)).isEmpty) then 4 else 0 by
    rw [in_dg, in_h35]; rfl)
  have HCT := Lib.hid (fun W (h : Mw W) => cntd_c m sc ex wh fr pt ba W h)
  have H1 := Lib.hid (fun w v v' hv hv' => inRows2a_c ⟨#[35]⟩ ⟨#[48, 49, 50, 51, 52, 53, 54, 55, 56, 57]⟩ ba v v' 161 w hv hv' rfl rfl (by decide) (by decide))
  have H2 := Lib.hid (fun w v v' hv hv' => inRows2a_c ⟨#[48, 49, 50, 51, 52, 53, 54, 55, 56, 57]⟩ ⟨#[35]⟩ fr v v' 161 w hv hv' rfl rfl (by decide) (by decide))
  generalize er6 ⟨bts m, sc, bts ex, bts wh, bts fr, pt, bts ba⟩ = E at *
  generalize cntd ⟨bts m, sc, bts ex, bts wh, bts fr, pt, bts ba⟩ = bc at *
  generalize (((bts ba).dropWhile (inS8 ⟨#[35]⟩)).dropWhile (inS8 ⟨#[48, 49, 50, 51, 52, 53, 54, 55, 56, 57]⟩)).isEmpty = b1 at *
  generalize (((bts fr).dropWhile (inS8 ⟨#[48, 49, 50, 51, 52, 53, 54, 55, 56, 57]⟩)).dropWhile (inS8 ⟨#[35]⟩)).isEmpty = b2 at *
  go_enter Tryz.func85, Tryz.ntmps85
  go_upto_region 1 with fail
  rw [HW.out, Hg.out]
  rcases bc with _ | _
  · rcases b1 with _ | _
    · refine wp_region_held_drew (S := (fun W : World => Hid (PX w W g m sc ex wh fr pt ba) ∧ W.cell? ⟨g, 0, none⟩ = some (.string m) ∧ W.cell? ⟨g, 1, none⟩ = some (.bool sc) ∧ W.cell? ⟨g, 2, none⟩ = some (.string ex) ∧ W.cell? ⟨g, 3, none⟩ = some (.string wh) ∧ W.cell? ⟨g, 4, none⟩ = some (.string fr) ∧ W.cell? ⟨g, 5, none⟩ = some (.bool pt) ∧ W.cell? ⟨g, 6, none⟩ = some (.string ba))) (by kernel_rfl) (PX.S HX.out.drew) (fun hHeld => ?_)
      clear HX c0 c1 c2 c3 c4 c5 c6
      refine' take_at 0 (v := _) rfl (by kernel_rfl) (by kernel_rfl) (by kernel_rfl) (fun _ _ _ h => h) rfl ?y126 hHeld ?r126
      case y126 =>
        intro w hSw
        try dsimp only at hSw
        go_simp
        try with_reducible rfl
      try simp only [Act.put, List.setIfInBounds_toArray, List.set_cons_zero, List.set_cons_succ]
      refine step_at 1 (by kernel_rfl) rfl rfl (fun K hK => ?_)
      go_simp
      refine (HCT.out _ hHeld.1.out.mw).mono ?_
      rintro r wx1 ⟨rfl, hbx⟩
      have hHX := hHeld.1.out.below hbx
      skip
      clear hHeld hbx
      go_wp2_with fail
      refine hK.out _ _ (PX.S hHX) (fun hHeld => ?_)
      clear hK K hHX
      try simp only [Act.put, List.setIfInBounds_toArray, List.set_cons_zero, List.set_cons_succ]
      refine' take_at 2 (v := _) rfl (by kernel_rfl) (by kernel_rfl) (by kernel_rfl) (fun _ _ _ h => h) rfl ?y127 hHeld ?r127
      case y127 =>
        intro w hSw
        try dsimp only at hSw
        go_simp
        try with_reducible rfl
      try simp only [Act.put, List.setIfInBounds_toArray, List.set_cons_zero, List.set_cons_succ]
      refine' take_at 3 (v := _) rfl (by kernel_rfl) (by kernel_rfl) (by kernel_rfl) (fun _ _ _ h => h) rfl ?y128 hHeld ?r128
      case y128 =>
        intro w hSw
        try dsimp only at hSw
        go_simp
        try with_reducible rfl
      try simp only [Act.put, List.setIfInBounds_toArray, List.set_cons_zero, List.set_cons_succ]
      refine' take_at 4 (v := _) rfl (by kernel_rfl) (by kernel_rfl) (by kernel_rfl) (fun _ _ _ h => h) rfl ?y129 hHeld ?r129
      case y129 =>
        intro w hSw
        try dsimp only at hSw
        go_simp
        try with_reducible rfl
      try simp only [Act.put, List.setIfInBounds_toArray, List.set_cons_zero, List.set_cons_succ]
      refine' take_at 5 (v := _) rfl (by kernel_rfl) (by kernel_rfl) (by kernel_rfl) (fun _ _ _ h => h) rfl ?y130 hHeld ?r130
      case y130 =>
        intro w hSw
        try dsimp only at hSw
        go_simp
        try with_reducible rfl
      try simp only [Act.put, List.setIfInBounds_toArray, List.set_cons_zero, List.set_cons_succ]
      refine step_at 6 (by kernel_rfl) rfl rfl (fun K hK => ?_)
      go_simp
      refine (of_c ⟨#[35]⟩ _).mono ?_
      rintro r wx2 ⟨B1, rfl, hv1, hbx⟩
      have hHX := hHeld.1.out.below hbx
      skip
      clear hHeld hbx
      go_wp2_with fail
      refine hK.out _ _ (PX.S hHX) (fun hHeld => ?_)
      clear hK K hHX
      try simp only [Act.put, List.setIfInBounds_toArray, List.set_cons_zero, List.set_cons_succ]
      refine step_at 7 (by kernel_rfl) rfl rfl (fun K hK => ?_)
      go_simp
      refine (of_c ⟨#[48, 49, 50, 51, 52, 53, 54, 55, 56, 57]⟩ _).mono ?_
      rintro r wx3 ⟨B2, rfl, hv2, hbx⟩
      have hHX := hHeld.1.out.below hbx
      have hv1 := hv1.below hbx
      clear hHeld hbx
      go_wp2_with fail
      refine hK.out _ _ (PX.S hHX) (fun hHeld => ?_)
      clear hK K hHX
      try simp only [Act.put, List.setIfInBounds_toArray, List.set_cons_zero, List.set_cons_succ]
      refine step_at 8 (by kernel_rfl) rfl rfl (fun K hK => ?_)
      go_simp
      refine hK.out _ _ (PX.S (hHeld.1.out.below (below_new _ _))) (fun hHeld => ?_)
      clear hK K
      try simp only [Act.put, List.setIfInBounds_toArray, List.set_cons_zero, List.set_cons_succ]
      refine step_at 9 (by kernel_rfl) rfl rfl (fun K hK => ?_)
      go_simp
      refine (H1.out _ _ _ hv1 hv2).mono ?_
      rintro r wx4 ⟨rfl, hbx⟩
      have hHX := hHeld.1.out.below hbx
      skip
      clear hHeld hbx
      go_wp2_with fail
      refine hK.out _ _ (PX.S hHX) (fun hHeld => ?_)
      clear hK K hHX
      try simp only [Act.put, List.setIfInBounds_toArray, List.set_cons_zero, List.set_cons_succ]
      refine' take_at 10 (v := _) rfl (by kernel_rfl) (by kernel_rfl) (by kernel_rfl) (fun _ _ _ h => h) rfl ?y131 hHeld ?r131
      case y131 =>
        intro w hSw
        try dsimp only at hSw
        go_simp
        try with_reducible rfl
      try simp only [Act.put, List.setIfInBounds_toArray, List.set_cons_zero, List.set_cons_succ]
      refine skip_at 11 rfl (by kernel_rfl) (by kernel_rfl) (by kernel_rfl) (fun _ _ _ h => h) rfl hHeld ?_
      try simp only [Act.put, List.setIfInBounds_toArray, List.set_cons_zero, List.set_cons_succ]
      refine skip_at 12 rfl (by kernel_rfl) (by kernel_rfl) (by kernel_rfl) (fun _ _ _ h => h) rfl hHeld ?_
      try simp only [Act.put, List.setIfInBounds_toArray, List.set_cons_zero, List.set_cons_succ]
      refine skip_at 13 rfl (by kernel_rfl) (by kernel_rfl) (by kernel_rfl) (fun _ _ _ h => h) rfl hHeld ?_
      try simp only [Act.put, List.setIfInBounds_toArray, List.set_cons_zero, List.set_cons_succ]
      refine skip_at 14 rfl (by kernel_rfl) (by kernel_rfl) (by kernel_rfl) (fun _ _ _ h => h) rfl hHeld ?_
      try simp only [Act.put, List.setIfInBounds_toArray, List.set_cons_zero, List.set_cons_succ]
      refine skip_at 15 rfl (by kernel_rfl) (by kernel_rfl) (by kernel_rfl) (fun _ _ _ h => h) rfl hHeld ?_
      try simp only [Act.put, List.setIfInBounds_toArray, List.set_cons_zero, List.set_cons_succ]
      refine skip_at 16 rfl (by kernel_rfl) (by kernel_rfl) (by kernel_rfl) (fun _ _ _ h => h) rfl hHeld ?_
      try simp only [Act.put, List.setIfInBounds_toArray, List.set_cons_zero, List.set_cons_succ]
      refine' take_at 17 (v := _) rfl (by kernel_rfl) (by kernel_rfl) (by kernel_rfl) (fun _ _ _ h => h) rfl ?y138 hHeld ?r138
      case y138 =>
        intro w hSw
        try dsimp only at hSw
        go_simp
        try with_reducible rfl
      try simp only [Act.put, List.setIfInBounds_toArray, List.set_cons_zero, List.set_cons_succ]
      refine' take_at 18 (v := _) rfl (by kernel_rfl) (by kernel_rfl) (by kernel_rfl) (fun _ _ _ h => h) rfl ?y139 hHeld ?r139
      case y139 =>
        intro w hSw
        try dsimp only at hSw
        go_simp
        try with_reducible rfl
      try simp only [Act.put, List.setIfInBounds_toArray, List.set_cons_zero, List.set_cons_succ]
      refine' take_at 19 (v := _) rfl (by kernel_rfl) (by kernel_rfl) (by kernel_rfl) (fun _ _ _ h => h) rfl ?y140 hHeld ?r140
      case y140 =>
        intro w hSw
        try dsimp only at hSw
        go_simp
        try with_reducible rfl
      try simp only [Act.put, List.setIfInBounds_toArray, List.set_cons_zero, List.set_cons_succ]
      refine wpAnyH_done (by kernel_rfl) ?_ _
      obtain ⟨HX, c0, c1, c2, c3, c4, c5, c6⟩ := hHeld
      go_wp2
      go_ret
      rw [HER.out]
      exact ⟨rfl, Hg.out ▸ HX.out.b⟩
    · rcases b2 with _ | _
      · refine wp_region_held_drew (S := (fun W : World => Hid (PX w W g m sc ex wh fr pt ba) ∧ W.cell? ⟨g, 0, none⟩ = some (.string m) ∧ W.cell? ⟨g, 1, none⟩ = some (.bool sc) ∧ W.cell? ⟨g, 2, none⟩ = some (.string ex) ∧ W.cell? ⟨g, 3, none⟩ = some (.string wh) ∧ W.cell? ⟨g, 4, none⟩ = some (.string fr) ∧ W.cell? ⟨g, 5, none⟩ = some (.bool pt) ∧ W.cell? ⟨g, 6, none⟩ = some (.string ba))) (by kernel_rfl) (PX.S HX.out.drew) (fun hHeld => ?_)
        clear HX c0 c1 c2 c3 c4 c5 c6
        refine' take_at 0 (v := _) rfl (by kernel_rfl) (by kernel_rfl) (by kernel_rfl) (fun _ _ _ h => h) rfl ?y141 hHeld ?r141
        case y141 =>
          intro w hSw
          try dsimp only at hSw
          go_simp
          try with_reducible rfl
        try simp only [Act.put, List.setIfInBounds_toArray, List.set_cons_zero, List.set_cons_succ]
        refine step_at 1 (by kernel_rfl) rfl rfl (fun K hK => ?_)
        go_simp
        refine (HCT.out _ hHeld.1.out.mw).mono ?_
        rintro r wx1 ⟨rfl, hbx⟩
        have hHX := hHeld.1.out.below hbx
        skip
        clear hHeld hbx
        go_wp2_with fail
        refine hK.out _ _ (PX.S hHX) (fun hHeld => ?_)
        clear hK K hHX
        try simp only [Act.put, List.setIfInBounds_toArray, List.set_cons_zero, List.set_cons_succ]
        refine' take_at 2 (v := _) rfl (by kernel_rfl) (by kernel_rfl) (by kernel_rfl) (fun _ _ _ h => h) rfl ?y142 hHeld ?r142
        case y142 =>
          intro w hSw
          try dsimp only at hSw
          go_simp
          try with_reducible rfl
        try simp only [Act.put, List.setIfInBounds_toArray, List.set_cons_zero, List.set_cons_succ]
        refine' take_at 3 (v := _) rfl (by kernel_rfl) (by kernel_rfl) (by kernel_rfl) (fun _ _ _ h => h) rfl ?y143 hHeld ?r143
        case y143 =>
          intro w hSw
          try dsimp only at hSw
          go_simp
          try with_reducible rfl
        try simp only [Act.put, List.setIfInBounds_toArray, List.set_cons_zero, List.set_cons_succ]
        refine' take_at 4 (v := _) rfl (by kernel_rfl) (by kernel_rfl) (by kernel_rfl) (fun _ _ _ h => h) rfl ?y144 hHeld ?r144
        case y144 =>
          intro w hSw
          try dsimp only at hSw
          go_simp
          try with_reducible rfl
        try simp only [Act.put, List.setIfInBounds_toArray, List.set_cons_zero, List.set_cons_succ]
        refine' take_at 5 (v := _) rfl (by kernel_rfl) (by kernel_rfl) (by kernel_rfl) (fun _ _ _ h => h) rfl ?y145 hHeld ?r145
        case y145 =>
          intro w hSw
          try dsimp only at hSw
          go_simp
          try with_reducible rfl
        try simp only [Act.put, List.setIfInBounds_toArray, List.set_cons_zero, List.set_cons_succ]
        refine step_at 6 (by kernel_rfl) rfl rfl (fun K hK => ?_)
        go_simp
        refine (of_c ⟨#[35]⟩ _).mono ?_
        rintro r wx2 ⟨B1, rfl, hv1, hbx⟩
        have hHX := hHeld.1.out.below hbx
        skip
        clear hHeld hbx
        go_wp2_with fail
        refine hK.out _ _ (PX.S hHX) (fun hHeld => ?_)
        clear hK K hHX
        try simp only [Act.put, List.setIfInBounds_toArray, List.set_cons_zero, List.set_cons_succ]
        refine step_at 7 (by kernel_rfl) rfl rfl (fun K hK => ?_)
        go_simp
        refine (of_c ⟨#[48, 49, 50, 51, 52, 53, 54, 55, 56, 57]⟩ _).mono ?_
        rintro r wx3 ⟨B2, rfl, hv2, hbx⟩
        have hHX := hHeld.1.out.below hbx
        have hv1 := hv1.below hbx
        clear hHeld hbx
        go_wp2_with fail
        refine hK.out _ _ (PX.S hHX) (fun hHeld => ?_)
        clear hK K hHX
        try simp only [Act.put, List.setIfInBounds_toArray, List.set_cons_zero, List.set_cons_succ]
        refine step_at 8 (by kernel_rfl) rfl rfl (fun K hK => ?_)
        go_simp
        refine hK.out _ _ (PX.S (hHeld.1.out.below (below_new _ _))) (fun hHeld => ?_)
        clear hK K
        try simp only [Act.put, List.setIfInBounds_toArray, List.set_cons_zero, List.set_cons_succ]
        refine step_at 9 (by kernel_rfl) rfl rfl (fun K hK => ?_)
        go_simp
        refine (H1.out _ _ _ hv1 hv2).mono ?_
        rintro r wx4 ⟨rfl, hbx⟩
        have hHX := hHeld.1.out.below hbx
        skip
        clear hHeld hbx
        go_wp2_with fail
        refine hK.out _ _ (PX.S hHX) (fun hHeld => ?_)
        clear hK K hHX
        try simp only [Act.put, List.setIfInBounds_toArray, List.set_cons_zero, List.set_cons_succ]
        refine' take_at 10 (v := _) rfl (by kernel_rfl) (by kernel_rfl) (by kernel_rfl) (fun _ _ _ h => h) rfl ?y146 hHeld ?r146
        case y146 =>
          intro w hSw
          try dsimp only at hSw
          go_simp
          try with_reducible rfl
        try simp only [Act.put, List.setIfInBounds_toArray, List.set_cons_zero, List.set_cons_succ]
        refine' take_at 11 (v := _) rfl (by kernel_rfl) (by kernel_rfl) (by kernel_rfl) (fun _ _ _ h => h) rfl ?y147 hHeld ?r147
        case y147 =>
          intro w hSw
          try dsimp only at hSw
          go_simp
          try with_reducible rfl
        try simp only [Act.put, List.setIfInBounds_toArray, List.set_cons_zero, List.set_cons_succ]
        refine' take_at 12 (v := _) rfl (by kernel_rfl) (by kernel_rfl) (by kernel_rfl) (fun _ _ _ h => h) rfl ?y148 hHeld ?r148
        case y148 =>
          intro w hSw
          try dsimp only at hSw
          go_simp
          try with_reducible rfl
        try simp only [Act.put, List.setIfInBounds_toArray, List.set_cons_zero, List.set_cons_succ]
        refine step_at 13 (by kernel_rfl) rfl rfl (fun K hK => ?_)
        go_simp
        refine (of_c ⟨#[48, 49, 50, 51, 52, 53, 54, 55, 56, 57]⟩ _).mono ?_
        rintro r wx5 ⟨B3, rfl, hv3, hbx⟩
        have hHX := hHeld.1.out.below hbx
        skip
        clear hHeld hbx
        go_wp2_with fail
        refine hK.out _ _ (PX.S hHX) (fun hHeld => ?_)
        clear hK K hHX
        try simp only [Act.put, List.setIfInBounds_toArray, List.set_cons_zero, List.set_cons_succ]
        refine step_at 14 (by kernel_rfl) rfl rfl (fun K hK => ?_)
        go_simp
        refine (of_c ⟨#[35]⟩ _).mono ?_
        rintro r wx6 ⟨B4, rfl, hv4, hbx⟩
        have hHX := hHeld.1.out.below hbx
        have hv3 := hv3.below hbx
        clear hHeld hbx
        go_wp2_with fail
        refine hK.out _ _ (PX.S hHX) (fun hHeld => ?_)
        clear hK K hHX
        try simp only [Act.put, List.setIfInBounds_toArray, List.set_cons_zero, List.set_cons_succ]
        refine step_at 15 (by kernel_rfl) rfl rfl (fun K hK => ?_)
        go_simp
        refine hK.out _ _ (PX.S (hHeld.1.out.below (below_new _ _))) (fun hHeld => ?_)
        clear hK K
        try simp only [Act.put, List.setIfInBounds_toArray, List.set_cons_zero, List.set_cons_succ]
        refine step_at 16 (by kernel_rfl) rfl rfl (fun K hK => ?_)
        go_simp
        refine (H2.out _ _ _ hv3 hv4).mono ?_
        rintro r wx7 ⟨rfl, hbx⟩
        have hHX := hHeld.1.out.below hbx
        skip
        clear hHeld hbx
        go_wp2_with fail
        refine hK.out _ _ (PX.S hHX) (fun hHeld => ?_)
        clear hK K hHX
        try simp only [Act.put, List.setIfInBounds_toArray, List.set_cons_zero, List.set_cons_succ]
        refine' take_at 17 (v := _) rfl (by kernel_rfl) (by kernel_rfl) (by kernel_rfl) (fun _ _ _ h => h) rfl ?y149 hHeld ?r149
        case y149 =>
          intro w hSw
          try dsimp only at hSw
          go_simp
          try with_reducible rfl
        try simp only [Act.put, List.setIfInBounds_toArray, List.set_cons_zero, List.set_cons_succ]
        refine' take_at 18 (v := _) rfl (by kernel_rfl) (by kernel_rfl) (by kernel_rfl) (fun _ _ _ h => h) rfl ?y150 hHeld ?r150
        case y150 =>
          intro w hSw
          try dsimp only at hSw
          go_simp
          try with_reducible rfl
        try simp only [Act.put, List.setIfInBounds_toArray, List.set_cons_zero, List.set_cons_succ]
        refine' take_at 19 (v := _) rfl (by kernel_rfl) (by kernel_rfl) (by kernel_rfl) (fun _ _ _ h => h) rfl ?y151 hHeld ?r151
        case y151 =>
          intro w hSw
          try dsimp only at hSw
          go_simp
          try with_reducible rfl
        try simp only [Act.put, List.setIfInBounds_toArray, List.set_cons_zero, List.set_cons_succ]
        refine wpAnyH_done (by kernel_rfl) ?_ _
        obtain ⟨HX, c0, c1, c2, c3, c4, c5, c6⟩ := hHeld
        go_wp2
        go_ret
        rw [HER.out]
        exact ⟨rfl, Hg.out ▸ HX.out.b⟩
      · refine wp_region_held_drew (S := (fun W : World => Hid (PX w W g m sc ex wh fr pt ba) ∧ W.cell? ⟨g, 0, none⟩ = some (.string m) ∧ W.cell? ⟨g, 1, none⟩ = some (.bool sc) ∧ W.cell? ⟨g, 2, none⟩ = some (.string ex) ∧ W.cell? ⟨g, 3, none⟩ = some (.string wh) ∧ W.cell? ⟨g, 4, none⟩ = some (.string fr) ∧ W.cell? ⟨g, 5, none⟩ = some (.bool pt) ∧ W.cell? ⟨g, 6, none⟩ = some (.string ba))) (by kernel_rfl) (PX.S HX.out.drew) (fun hHeld => ?_)
        clear HX c0 c1 c2 c3 c4 c5 c6
        refine' take_at 0 (v := _) rfl (by kernel_rfl) (by kernel_rfl) (by kernel_rfl) (fun _ _ _ h => h) rfl ?y152 hHeld ?r152
        case y152 =>
          intro w hSw
          try dsimp only at hSw
          go_simp
          try with_reducible rfl
        try simp only [Act.put, List.setIfInBounds_toArray, List.set_cons_zero, List.set_cons_succ]
        refine step_at 1 (by kernel_rfl) rfl rfl (fun K hK => ?_)
        go_simp
        refine (HCT.out _ hHeld.1.out.mw).mono ?_
        rintro r wx1 ⟨rfl, hbx⟩
        have hHX := hHeld.1.out.below hbx
        skip
        clear hHeld hbx
        go_wp2_with fail
        refine hK.out _ _ (PX.S hHX) (fun hHeld => ?_)
        clear hK K hHX
        try simp only [Act.put, List.setIfInBounds_toArray, List.set_cons_zero, List.set_cons_succ]
        refine' take_at 2 (v := _) rfl (by kernel_rfl) (by kernel_rfl) (by kernel_rfl) (fun _ _ _ h => h) rfl ?y153 hHeld ?r153
        case y153 =>
          intro w hSw
          try dsimp only at hSw
          go_simp
          try with_reducible rfl
        try simp only [Act.put, List.setIfInBounds_toArray, List.set_cons_zero, List.set_cons_succ]
        refine' take_at 3 (v := _) rfl (by kernel_rfl) (by kernel_rfl) (by kernel_rfl) (fun _ _ _ h => h) rfl ?y154 hHeld ?r154
        case y154 =>
          intro w hSw
          try dsimp only at hSw
          go_simp
          try with_reducible rfl
        try simp only [Act.put, List.setIfInBounds_toArray, List.set_cons_zero, List.set_cons_succ]
        refine' take_at 4 (v := _) rfl (by kernel_rfl) (by kernel_rfl) (by kernel_rfl) (fun _ _ _ h => h) rfl ?y155 hHeld ?r155
        case y155 =>
          intro w hSw
          try dsimp only at hSw
          go_simp
          try with_reducible rfl
        try simp only [Act.put, List.setIfInBounds_toArray, List.set_cons_zero, List.set_cons_succ]
        refine' take_at 5 (v := _) rfl (by kernel_rfl) (by kernel_rfl) (by kernel_rfl) (fun _ _ _ h => h) rfl ?y156 hHeld ?r156
        case y156 =>
          intro w hSw
          try dsimp only at hSw
          go_simp
          try with_reducible rfl
        try simp only [Act.put, List.setIfInBounds_toArray, List.set_cons_zero, List.set_cons_succ]
        refine step_at 6 (by kernel_rfl) rfl rfl (fun K hK => ?_)
        go_simp
        refine (of_c ⟨#[35]⟩ _).mono ?_
        rintro r wx2 ⟨B1, rfl, hv1, hbx⟩
        have hHX := hHeld.1.out.below hbx
        skip
        clear hHeld hbx
        go_wp2_with fail
        refine hK.out _ _ (PX.S hHX) (fun hHeld => ?_)
        clear hK K hHX
        try simp only [Act.put, List.setIfInBounds_toArray, List.set_cons_zero, List.set_cons_succ]
        refine step_at 7 (by kernel_rfl) rfl rfl (fun K hK => ?_)
        go_simp
        refine (of_c ⟨#[48, 49, 50, 51, 52, 53, 54, 55, 56, 57]⟩ _).mono ?_
        rintro r wx3 ⟨B2, rfl, hv2, hbx⟩
        have hHX := hHeld.1.out.below hbx
        have hv1 := hv1.below hbx
        clear hHeld hbx
        go_wp2_with fail
        refine hK.out _ _ (PX.S hHX) (fun hHeld => ?_)
        clear hK K hHX
        try simp only [Act.put, List.setIfInBounds_toArray, List.set_cons_zero, List.set_cons_succ]
        refine step_at 8 (by kernel_rfl) rfl rfl (fun K hK => ?_)
        go_simp
        refine hK.out _ _ (PX.S (hHeld.1.out.below (below_new _ _))) (fun hHeld => ?_)
        clear hK K
        try simp only [Act.put, List.setIfInBounds_toArray, List.set_cons_zero, List.set_cons_succ]
        refine step_at 9 (by kernel_rfl) rfl rfl (fun K hK => ?_)
        go_simp
        refine (H1.out _ _ _ hv1 hv2).mono ?_
        rintro r wx4 ⟨rfl, hbx⟩
        have hHX := hHeld.1.out.below hbx
        skip
        clear hHeld hbx
        go_wp2_with fail
        refine hK.out _ _ (PX.S hHX) (fun hHeld => ?_)
        clear hK K hHX
        try simp only [Act.put, List.setIfInBounds_toArray, List.set_cons_zero, List.set_cons_succ]
        refine' take_at 10 (v := _) rfl (by kernel_rfl) (by kernel_rfl) (by kernel_rfl) (fun _ _ _ h => h) rfl ?y157 hHeld ?r157
        case y157 =>
          intro w hSw
          try dsimp only at hSw
          go_simp
          try with_reducible rfl
        try simp only [Act.put, List.setIfInBounds_toArray, List.set_cons_zero, List.set_cons_succ]
        refine' take_at 11 (v := _) rfl (by kernel_rfl) (by kernel_rfl) (by kernel_rfl) (fun _ _ _ h => h) rfl ?y158 hHeld ?r158
        case y158 =>
          intro w hSw
          try dsimp only at hSw
          go_simp
          try with_reducible rfl
        try simp only [Act.put, List.setIfInBounds_toArray, List.set_cons_zero, List.set_cons_succ]
        refine' take_at 12 (v := _) rfl (by kernel_rfl) (by kernel_rfl) (by kernel_rfl) (fun _ _ _ h => h) rfl ?y159 hHeld ?r159
        case y159 =>
          intro w hSw
          try dsimp only at hSw
          go_simp
          try with_reducible rfl
        try simp only [Act.put, List.setIfInBounds_toArray, List.set_cons_zero, List.set_cons_succ]
        refine step_at 13 (by kernel_rfl) rfl rfl (fun K hK => ?_)
        go_simp
        refine (of_c ⟨#[48, 49, 50, 51, 52, 53, 54, 55, 56, 57]⟩ _).mono ?_
        rintro r wx5 ⟨B3, rfl, hv3, hbx⟩
        have hHX := hHeld.1.out.below hbx
        skip
        clear hHeld hbx
        go_wp2_with fail
        refine hK.out _ _ (PX.S hHX) (fun hHeld => ?_)
        clear hK K hHX
        try simp only [Act.put, List.setIfInBounds_toArray, List.set_cons_zero, List.set_cons_succ]
        refine step_at 14 (by kernel_rfl) rfl rfl (fun K hK => ?_)
        go_simp
        refine (of_c ⟨#[35]⟩ _).mono ?_
        rintro r wx6 ⟨B4, rfl, hv4, hbx⟩
        have hHX := hHeld.1.out.below hbx
        have hv3 := hv3.below hbx
        clear hHeld hbx
        go_wp2_with fail
        refine hK.out _ _ (PX.S hHX) (fun hHeld => ?_)
        clear hK K hHX
        try simp only [Act.put, List.setIfInBounds_toArray, List.set_cons_zero, List.set_cons_succ]
        refine step_at 15 (by kernel_rfl) rfl rfl (fun K hK => ?_)
        go_simp
        refine hK.out _ _ (PX.S (hHeld.1.out.below (below_new _ _))) (fun hHeld => ?_)
        clear hK K
        try simp only [Act.put, List.setIfInBounds_toArray, List.set_cons_zero, List.set_cons_succ]
        refine step_at 16 (by kernel_rfl) rfl rfl (fun K hK => ?_)
        go_simp
        refine (H2.out _ _ _ hv3 hv4).mono ?_
        rintro r wx7 ⟨rfl, hbx⟩
        have hHX := hHeld.1.out.below hbx
        skip
        clear hHeld hbx
        go_wp2_with fail
        refine hK.out _ _ (PX.S hHX) (fun hHeld => ?_)
        clear hK K hHX
        try simp only [Act.put, List.setIfInBounds_toArray, List.set_cons_zero, List.set_cons_succ]
        refine' take_at 17 (v := _) rfl (by kernel_rfl) (by kernel_rfl) (by kernel_rfl) (fun _ _ _ h => h) rfl ?y160 hHeld ?r160
        case y160 =>
          intro w hSw
          try dsimp only at hSw
          go_simp
          try with_reducible rfl
        try simp only [Act.put, List.setIfInBounds_toArray, List.set_cons_zero, List.set_cons_succ]
        refine' take_at 18 (v := _) rfl (by kernel_rfl) (by kernel_rfl) (by kernel_rfl) (fun _ _ _ h => h) rfl ?y161 hHeld ?r161
        case y161 =>
          intro w hSw
          try dsimp only at hSw
          go_simp
          try with_reducible rfl
        try simp only [Act.put, List.setIfInBounds_toArray, List.set_cons_zero, List.set_cons_succ]
        refine' take_at 19 (v := _) rfl (by kernel_rfl) (by kernel_rfl) (by kernel_rfl) (fun _ _ _ h => h) rfl ?y162 hHeld ?r162
        case y162 =>
          intro w hSw
          try dsimp only at hSw
          go_simp
          try with_reducible rfl
        try simp only [Act.put, List.setIfInBounds_toArray, List.set_cons_zero, List.set_cons_succ]
        refine wpAnyH_done (by kernel_rfl) ?_ _
        obtain ⟨HX, c0, c1, c2, c3, c4, c5, c6⟩ := hHeld
        go_wp2
        go_ret
        rw [HER.out]
        exact ⟨rfl, Hg.out ▸ HX.out.b⟩
  · refine wp_region_held_drew (S := (fun W : World => Hid (PX w W g m sc ex wh fr pt ba) ∧ W.cell? ⟨g, 0, none⟩ = some (.string m) ∧ W.cell? ⟨g, 1, none⟩ = some (.bool sc) ∧ W.cell? ⟨g, 2, none⟩ = some (.string ex) ∧ W.cell? ⟨g, 3, none⟩ = some (.string wh) ∧ W.cell? ⟨g, 4, none⟩ = some (.string fr) ∧ W.cell? ⟨g, 5, none⟩ = some (.bool pt) ∧ W.cell? ⟨g, 6, none⟩ = some (.string ba))) (by kernel_rfl) (PX.S HX.out.drew) (fun hHeld => ?_)
    clear HX c0 c1 c2 c3 c4 c5 c6
    refine' take_at 0 (v := _) rfl (by kernel_rfl) (by kernel_rfl) (by kernel_rfl) (fun _ _ _ h => h) rfl ?y163 hHeld ?r163
    case y163 =>
      intro w hSw
      try dsimp only at hSw
      go_simp
      try with_reducible rfl
    try simp only [Act.put, List.setIfInBounds_toArray, List.set_cons_zero, List.set_cons_succ]
    refine step_at 1 (by kernel_rfl) rfl rfl (fun K hK => ?_)
    go_simp
    refine (HCT.out _ hHeld.1.out.mw).mono ?_
    rintro r wx1 ⟨rfl, hbx⟩
    have hHX := hHeld.1.out.below hbx
    skip
    clear hHeld hbx
    go_wp2_with fail
    refine hK.out _ _ (PX.S hHX) (fun hHeld => ?_)
    clear hK K hHX
    try simp only [Act.put, List.setIfInBounds_toArray, List.set_cons_zero, List.set_cons_succ]
    refine' take_at 2 (v := _) rfl (by kernel_rfl) (by kernel_rfl) (by kernel_rfl) (fun _ _ _ h => h) rfl ?y164 hHeld ?r164
    case y164 =>
      intro w hSw
      try dsimp only at hSw
      go_simp
      try with_reducible rfl
    try simp only [Act.put, List.setIfInBounds_toArray, List.set_cons_zero, List.set_cons_succ]
    refine' take_at 3 (v := _) rfl (by kernel_rfl) (by kernel_rfl) (by kernel_rfl) (fun _ _ _ h => h) rfl ?y165 hHeld ?r165
    case y165 =>
      intro w hSw
      try dsimp only at hSw
      go_simp
      try with_reducible rfl
    try simp only [Act.put, List.setIfInBounds_toArray, List.set_cons_zero, List.set_cons_succ]
    refine skip_at 4 rfl (by kernel_rfl) (by kernel_rfl) (by kernel_rfl) (fun _ _ _ h => h) rfl hHeld ?_
    try simp only [Act.put, List.setIfInBounds_toArray, List.set_cons_zero, List.set_cons_succ]
    refine skip_at 5 rfl (by kernel_rfl) (by kernel_rfl) (by kernel_rfl) (fun _ _ _ h => h) rfl hHeld ?_
    try simp only [Act.put, List.setIfInBounds_toArray, List.set_cons_zero, List.set_cons_succ]
    refine skip_at 6 rfl (by kernel_rfl) (by kernel_rfl) (by kernel_rfl) (fun _ _ _ h => h) rfl hHeld ?_
    try simp only [Act.put, List.setIfInBounds_toArray, List.set_cons_zero, List.set_cons_succ]
    refine skip_at 7 rfl (by kernel_rfl) (by kernel_rfl) (by kernel_rfl) (fun _ _ _ h => h) rfl hHeld ?_
    try simp only [Act.put, List.setIfInBounds_toArray, List.set_cons_zero, List.set_cons_succ]
    refine skip_at 8 rfl (by kernel_rfl) (by kernel_rfl) (by kernel_rfl) (fun _ _ _ h => h) rfl hHeld ?_
    try simp only [Act.put, List.setIfInBounds_toArray, List.set_cons_zero, List.set_cons_succ]
    refine skip_at 9 rfl (by kernel_rfl) (by kernel_rfl) (by kernel_rfl) (fun _ _ _ h => h) rfl hHeld ?_
    try simp only [Act.put, List.setIfInBounds_toArray, List.set_cons_zero, List.set_cons_succ]
    refine skip_at 10 rfl (by kernel_rfl) (by kernel_rfl) (by kernel_rfl) (fun _ _ _ h => h) rfl hHeld ?_
    try simp only [Act.put, List.setIfInBounds_toArray, List.set_cons_zero, List.set_cons_succ]
    refine skip_at 11 rfl (by kernel_rfl) (by kernel_rfl) (by kernel_rfl) (fun _ _ _ h => h) rfl hHeld ?_
    try simp only [Act.put, List.setIfInBounds_toArray, List.set_cons_zero, List.set_cons_succ]
    refine skip_at 12 rfl (by kernel_rfl) (by kernel_rfl) (by kernel_rfl) (fun _ _ _ h => h) rfl hHeld ?_
    try simp only [Act.put, List.setIfInBounds_toArray, List.set_cons_zero, List.set_cons_succ]
    refine skip_at 13 rfl (by kernel_rfl) (by kernel_rfl) (by kernel_rfl) (fun _ _ _ h => h) rfl hHeld ?_
    try simp only [Act.put, List.setIfInBounds_toArray, List.set_cons_zero, List.set_cons_succ]
    refine skip_at 14 rfl (by kernel_rfl) (by kernel_rfl) (by kernel_rfl) (fun _ _ _ h => h) rfl hHeld ?_
    try simp only [Act.put, List.setIfInBounds_toArray, List.set_cons_zero, List.set_cons_succ]
    refine skip_at 15 rfl (by kernel_rfl) (by kernel_rfl) (by kernel_rfl) (fun _ _ _ h => h) rfl hHeld ?_
    try simp only [Act.put, List.setIfInBounds_toArray, List.set_cons_zero, List.set_cons_succ]
    refine skip_at 16 rfl (by kernel_rfl) (by kernel_rfl) (by kernel_rfl) (fun _ _ _ h => h) rfl hHeld ?_
    try simp only [Act.put, List.setIfInBounds_toArray, List.set_cons_zero, List.set_cons_succ]
    refine skip_at 17 rfl (by kernel_rfl) (by kernel_rfl) (by kernel_rfl) (fun _ _ _ h => h) rfl hHeld ?_
    try simp only [Act.put, List.setIfInBounds_toArray, List.set_cons_zero, List.set_cons_succ]
    refine skip_at 18 rfl (by kernel_rfl) (by kernel_rfl) (by kernel_rfl) (fun _ _ _ h => h) rfl hHeld ?_
    try simp only [Act.put, List.setIfInBounds_toArray, List.set_cons_zero, List.set_cons_succ]
    refine' take_at 19 (v := _) rfl (by kernel_rfl) (by kernel_rfl) (by kernel_rfl) (fun _ _ _ h => h) rfl ?y181 hHeld ?r181
    case y181 =>
      intro w hSw
      try dsimp only at hSw
      go_simp
      try with_reducible rfl
    try simp only [Act.put, List.setIfInBounds_toArray, List.set_cons_zero, List.set_cons_succ]
    refine wpAnyH_done (by kernel_rfl) ?_ _
    obtain ⟨HX, c0, c1, c2, c3, c4, c5, c6⟩ := hHeld
    go_wp2
    go_ret
    rw [HER.out]
    exact ⟨rfl, Hg.out ▸ HX.out.b⟩
set_option maxHeartbeats 4000000 in
theorem er7_c (m : ByteArray) (sc : Bool) (ex wh fr : ByteArray) (pt : Bool) (ba : ByteArray) (w : World) (hM : Mw w) :
    Calls Tryz.prog 86 #[.agg (ptV m sc ex wh fr pt ba)] w fun e w' => e = .returned (.int .i64 ((er7 ⟨bts m, sc, bts ex, bts wh, bts fr, pt, bts ba⟩ : Nat) : Int)) ∧ Below w.heap.size w w' := by
  have HX := Lib.hid (PX.new (m := m) (sc := sc) (ex := ex) (wh := wh) (fr := fr) (pt := pt) (ba := ba) hM)
  obtain ⟨c0, c1, c2, c3, c4, c5, c6⟩ := HX.out.cells
  clear hM
  generalize hW : w.alloc (.cells (ptV m sc ex wh fr pt ba) 119) = W at *
  have HW := Lib.hid hW
  clear hW
  generalize hg : w.heap.size = g at *
  have Hg := Lib.hid hg
  clear hg
  have HER := Lib.hid (show er7 ⟨bts m, sc, bts ex, bts wh, bts fr, pt, bts ba⟩ = if (bts m).any (inS8 ⟨#[49, 50, 51, 52, 53, 54, 55, 56, 57]⟩) && ((bts fr).any (inS8 ⟨#[35]⟩) || sc) then 6 else 0 by rw [in_ab, in_h35]; rfl)
  have H1 := Lib.hid (fun w v hv => has15_c ⟨#[49, 50, 51, 52, 53, 54, 55, 56, 57]⟩ m v w (lo_lit rfl) (by decide) hv)
  have H2 := Lib.hid (fun w v hv => has15_c ⟨#[35]⟩ fr v w (lo_lit rfl) (by decide) hv)
  generalize er7 ⟨bts m, sc, bts ex, bts wh, bts fr, pt, bts ba⟩ = E at *
  generalize (bts m).any (inS8 ⟨#[49, 50, 51, 52, 53, 54, 55, 56, 57]⟩) = b1 at *
  generalize (bts fr).any (inS8 ⟨#[35]⟩) = b2 at *
  go_enter Tryz.func86, Tryz.ntmps86
  go_upto_region 1 with fail
  rw [HW.out, Hg.out]
  rcases b1 with _ | _
  · refine wp_region_held_drew (S := (fun W : World => Hid (PX w W g m sc ex wh fr pt ba) ∧ W.cell? ⟨g, 0, none⟩ = some (.string m) ∧ W.cell? ⟨g, 1, none⟩ = some (.bool sc) ∧ W.cell? ⟨g, 2, none⟩ = some (.string ex) ∧ W.cell? ⟨g, 3, none⟩ = some (.string wh) ∧ W.cell? ⟨g, 4, none⟩ = some (.string fr) ∧ W.cell? ⟨g, 5, none⟩ = some (.bool pt) ∧ W.cell? ⟨g, 6, none⟩ = some (.string ba))) (by kernel_rfl) (PX.S HX.out.drew) (fun hHeld => ?_)
    clear HX c0 c1 c2 c3 c4 c5 c6
    refine' take_at 0 (v := _) rfl (by kernel_rfl) (by kernel_rfl) (by kernel_rfl) (fun _ _ _ h => h) rfl ?y182 hHeld ?r182
    case y182 =>
      intro w hSw
      try dsimp only at hSw
      go_simp
      try with_reducible rfl
    try simp only [Act.put, List.setIfInBounds_toArray, List.set_cons_zero, List.set_cons_succ]
    refine' take_at 1 (v := _) rfl (by kernel_rfl) (by kernel_rfl) (by kernel_rfl) (fun _ _ _ h => h) rfl ?y183 hHeld ?r183
    case y183 =>
      intro w hSw
      try dsimp only at hSw
      go_simp
      try with_reducible rfl
    try simp only [Act.put, List.setIfInBounds_toArray, List.set_cons_zero, List.set_cons_succ]
    refine step_at 2 (by kernel_rfl) rfl rfl (fun K hK => ?_)
    go_simp
    refine (of_c ⟨#[49, 50, 51, 52, 53, 54, 55, 56, 57]⟩ _).mono ?_
    rintro r wx1 ⟨B1, rfl, hv1, hbx⟩
    have hHX := hHeld.1.out.below hbx
    skip
    clear hHeld hbx
    go_wp2_with fail
    refine hK.out _ _ (PX.S hHX) (fun hHeld => ?_)
    clear hK K hHX
    try simp only [Act.put, List.setIfInBounds_toArray, List.set_cons_zero, List.set_cons_succ]
    refine step_at 3 (by kernel_rfl) rfl rfl (fun K hK => ?_)
    go_simp
    refine (H1.out _ _ hv1).mono ?_
    rintro r wx2 ⟨rfl, hbx⟩
    have hHX := hHeld.1.out.below hbx
    skip
    clear hHeld hbx
    go_wp2_with fail
    refine hK.out _ _ (PX.S hHX) (fun hHeld => ?_)
    clear hK K hHX
    try simp only [Act.put, List.setIfInBounds_toArray, List.set_cons_zero, List.set_cons_succ]
    refine' take_at 4 (v := _) rfl (by kernel_rfl) (by kernel_rfl) (by kernel_rfl) (fun _ _ _ h => h) rfl ?y184 hHeld ?r184
    case y184 =>
      intro w hSw
      try dsimp only at hSw
      go_simp
      try with_reducible rfl
    try simp only [Act.put, List.setIfInBounds_toArray, List.set_cons_zero, List.set_cons_succ]
    refine skip_at 5 rfl (by kernel_rfl) (by kernel_rfl) (by kernel_rfl) (fun _ _ _ h => h) rfl hHeld ?_
    try simp only [Act.put, List.setIfInBounds_toArray, List.set_cons_zero, List.set_cons_succ]
    refine skip_at 6 rfl (by kernel_rfl) (by kernel_rfl) (by kernel_rfl) (fun _ _ _ h => h) rfl hHeld ?_
    try simp only [Act.put, List.setIfInBounds_toArray, List.set_cons_zero, List.set_cons_succ]
    refine skip_at 7 rfl (by kernel_rfl) (by kernel_rfl) (by kernel_rfl) (fun _ _ _ h => h) rfl hHeld ?_
    try simp only [Act.put, List.setIfInBounds_toArray, List.set_cons_zero, List.set_cons_succ]
    refine skip_at 8 rfl (by kernel_rfl) (by kernel_rfl) (by kernel_rfl) (fun _ _ _ h => h) rfl hHeld ?_
    try simp only [Act.put, List.setIfInBounds_toArray, List.set_cons_zero, List.set_cons_succ]
    refine skip_at 9 rfl (by kernel_rfl) (by kernel_rfl) (by kernel_rfl) (fun _ _ _ h => h) rfl hHeld ?_
    try simp only [Act.put, List.setIfInBounds_toArray, List.set_cons_zero, List.set_cons_succ]
    refine skip_at 10 rfl (by kernel_rfl) (by kernel_rfl) (by kernel_rfl) (fun _ _ _ h => h) rfl hHeld ?_
    try simp only [Act.put, List.setIfInBounds_toArray, List.set_cons_zero, List.set_cons_succ]
    refine skip_at 11 rfl (by kernel_rfl) (by kernel_rfl) (by kernel_rfl) (fun _ _ _ h => h) rfl hHeld ?_
    try simp only [Act.put, List.setIfInBounds_toArray, List.set_cons_zero, List.set_cons_succ]
    refine skip_at 12 rfl (by kernel_rfl) (by kernel_rfl) (by kernel_rfl) (fun _ _ _ h => h) rfl hHeld ?_
    try simp only [Act.put, List.setIfInBounds_toArray, List.set_cons_zero, List.set_cons_succ]
    refine' take_at 13 (v := _) rfl (by kernel_rfl) (by kernel_rfl) (by kernel_rfl) (fun _ _ _ h => h) rfl ?y193 hHeld ?r193
    case y193 =>
      intro w hSw
      try dsimp only at hSw
      go_simp
      try with_reducible rfl
    try simp only [Act.put, List.setIfInBounds_toArray, List.set_cons_zero, List.set_cons_succ]
    refine wpAnyH_done (by kernel_rfl) ?_ _
    obtain ⟨HX, c0, c1, c2, c3, c4, c5, c6⟩ := hHeld
    go_wp2
    go_ret
    rw [HER.out]
    exact ⟨rfl, Hg.out ▸ HX.out.b⟩
  · rcases b2 with _ | _
    · rcases sc with _ | _
      · refine wp_region_held_drew (S := (fun W : World => Hid (PX w W g m false ex wh fr pt ba) ∧ W.cell? ⟨g, 0, none⟩ = some (.string m) ∧ W.cell? ⟨g, 1, none⟩ = some (.bool false) ∧ W.cell? ⟨g, 2, none⟩ = some (.string ex) ∧ W.cell? ⟨g, 3, none⟩ = some (.string wh) ∧ W.cell? ⟨g, 4, none⟩ = some (.string fr) ∧ W.cell? ⟨g, 5, none⟩ = some (.bool pt) ∧ W.cell? ⟨g, 6, none⟩ = some (.string ba))) (by kernel_rfl) (PX.S HX.out.drew) (fun hHeld => ?_)
        clear HX c0 c1 c2 c3 c4 c5 c6
        refine' take_at 0 (v := _) rfl (by kernel_rfl) (by kernel_rfl) (by kernel_rfl) (fun _ _ _ h => h) rfl ?y194 hHeld ?r194
        case y194 =>
          intro w hSw
          try dsimp only at hSw
          go_simp
          try with_reducible rfl
        try simp only [Act.put, List.setIfInBounds_toArray, List.set_cons_zero, List.set_cons_succ]
        refine' take_at 1 (v := _) rfl (by kernel_rfl) (by kernel_rfl) (by kernel_rfl) (fun _ _ _ h => h) rfl ?y195 hHeld ?r195
        case y195 =>
          intro w hSw
          try dsimp only at hSw
          go_simp
          try with_reducible rfl
        try simp only [Act.put, List.setIfInBounds_toArray, List.set_cons_zero, List.set_cons_succ]
        refine step_at 2 (by kernel_rfl) rfl rfl (fun K hK => ?_)
        go_simp
        refine (of_c ⟨#[49, 50, 51, 52, 53, 54, 55, 56, 57]⟩ _).mono ?_
        rintro r wx1 ⟨B1, rfl, hv1, hbx⟩
        have hHX := hHeld.1.out.below hbx
        skip
        clear hHeld hbx
        go_wp2_with fail
        refine hK.out _ _ (PX.S hHX) (fun hHeld => ?_)
        clear hK K hHX
        try simp only [Act.put, List.setIfInBounds_toArray, List.set_cons_zero, List.set_cons_succ]
        refine step_at 3 (by kernel_rfl) rfl rfl (fun K hK => ?_)
        go_simp
        refine (H1.out _ _ hv1).mono ?_
        rintro r wx2 ⟨rfl, hbx⟩
        have hHX := hHeld.1.out.below hbx
        skip
        clear hHeld hbx
        go_wp2_with fail
        refine hK.out _ _ (PX.S hHX) (fun hHeld => ?_)
        clear hK K hHX
        try simp only [Act.put, List.setIfInBounds_toArray, List.set_cons_zero, List.set_cons_succ]
        refine' take_at 4 (v := _) rfl (by kernel_rfl) (by kernel_rfl) (by kernel_rfl) (fun _ _ _ h => h) rfl ?y196 hHeld ?r196
        case y196 =>
          intro w hSw
          try dsimp only at hSw
          go_simp
          try with_reducible rfl
        try simp only [Act.put, List.setIfInBounds_toArray, List.set_cons_zero, List.set_cons_succ]
        refine' take_at 5 (v := _) rfl (by kernel_rfl) (by kernel_rfl) (by kernel_rfl) (fun _ _ _ h => h) rfl ?y197 hHeld ?r197
        case y197 =>
          intro w hSw
          try dsimp only at hSw
          go_simp
          try with_reducible rfl
        try simp only [Act.put, List.setIfInBounds_toArray, List.set_cons_zero, List.set_cons_succ]
        refine' take_at 6 (v := _) rfl (by kernel_rfl) (by kernel_rfl) (by kernel_rfl) (fun _ _ _ h => h) rfl ?y198 hHeld ?r198
        case y198 =>
          intro w hSw
          try dsimp only at hSw
          go_simp
          try with_reducible rfl
        try simp only [Act.put, List.setIfInBounds_toArray, List.set_cons_zero, List.set_cons_succ]
        refine step_at 7 (by kernel_rfl) rfl rfl (fun K hK => ?_)
        go_simp
        refine (of_c ⟨#[35]⟩ _).mono ?_
        rintro r wx3 ⟨B2, rfl, hv2, hbx⟩
        have hHX := hHeld.1.out.below hbx
        skip
        clear hHeld hbx
        go_wp2_with fail
        refine hK.out _ _ (PX.S hHX) (fun hHeld => ?_)
        clear hK K hHX
        try simp only [Act.put, List.setIfInBounds_toArray, List.set_cons_zero, List.set_cons_succ]
        refine step_at 8 (by kernel_rfl) rfl rfl (fun K hK => ?_)
        go_simp
        refine (H2.out _ _ hv2).mono ?_
        rintro r wx4 ⟨rfl, hbx⟩
        have hHX := hHeld.1.out.below hbx
        skip
        clear hHeld hbx
        go_wp2_with fail
        refine hK.out _ _ (PX.S hHX) (fun hHeld => ?_)
        clear hK K hHX
        try simp only [Act.put, List.setIfInBounds_toArray, List.set_cons_zero, List.set_cons_succ]
        refine' take_at 9 (v := _) rfl (by kernel_rfl) (by kernel_rfl) (by kernel_rfl) (fun _ _ _ h => h) rfl ?y199 hHeld ?r199
        case y199 =>
          intro w hSw
          try dsimp only at hSw
          go_simp
          try with_reducible rfl
        try simp only [Act.put, List.setIfInBounds_toArray, List.set_cons_zero, List.set_cons_succ]
        refine' take_at 10 (v := _) rfl (by kernel_rfl) (by kernel_rfl) (by kernel_rfl) (fun _ _ _ h => h) rfl ?y200 hHeld ?r200
        case y200 =>
          intro w hSw
          try dsimp only at hSw
          go_simp
          try with_reducible rfl
        try simp only [Act.put, List.setIfInBounds_toArray, List.set_cons_zero, List.set_cons_succ]
        refine' take_at 11 (v := _) rfl (by kernel_rfl) (by kernel_rfl) (by kernel_rfl) (fun _ _ _ h => h) rfl ?y201 hHeld ?r201
        case y201 =>
          intro w hSw
          try dsimp only at hSw
          go_simp
          try with_reducible rfl
        try simp only [Act.put, List.setIfInBounds_toArray, List.set_cons_zero, List.set_cons_succ]
        refine' take_at 12 (v := _) rfl (by kernel_rfl) (by kernel_rfl) (by kernel_rfl) (fun _ _ _ h => h) rfl ?y202 hHeld ?r202
        case y202 =>
          intro w hSw
          try dsimp only at hSw
          go_simp
          try with_reducible rfl
        try simp only [Act.put, List.setIfInBounds_toArray, List.set_cons_zero, List.set_cons_succ]
        refine' take_at 13 (v := _) rfl (by kernel_rfl) (by kernel_rfl) (by kernel_rfl) (fun _ _ _ h => h) rfl ?y203 hHeld ?r203
        case y203 =>
          intro w hSw
          try dsimp only at hSw
          go_simp
          try with_reducible rfl
        try simp only [Act.put, List.setIfInBounds_toArray, List.set_cons_zero, List.set_cons_succ]
        refine wpAnyH_done (by kernel_rfl) ?_ _
        obtain ⟨HX, c0, c1, c2, c3, c4, c5, c6⟩ := hHeld
        go_wp2
        go_ret
        rw [HER.out]
        exact ⟨rfl, Hg.out ▸ HX.out.b⟩
      · refine wp_region_held_drew (S := (fun W : World => Hid (PX w W g m true ex wh fr pt ba) ∧ W.cell? ⟨g, 0, none⟩ = some (.string m) ∧ W.cell? ⟨g, 1, none⟩ = some (.bool true) ∧ W.cell? ⟨g, 2, none⟩ = some (.string ex) ∧ W.cell? ⟨g, 3, none⟩ = some (.string wh) ∧ W.cell? ⟨g, 4, none⟩ = some (.string fr) ∧ W.cell? ⟨g, 5, none⟩ = some (.bool pt) ∧ W.cell? ⟨g, 6, none⟩ = some (.string ba))) (by kernel_rfl) (PX.S HX.out.drew) (fun hHeld => ?_)
        clear HX c0 c1 c2 c3 c4 c5 c6
        refine' take_at 0 (v := _) rfl (by kernel_rfl) (by kernel_rfl) (by kernel_rfl) (fun _ _ _ h => h) rfl ?y204 hHeld ?r204
        case y204 =>
          intro w hSw
          try dsimp only at hSw
          go_simp
          try with_reducible rfl
        try simp only [Act.put, List.setIfInBounds_toArray, List.set_cons_zero, List.set_cons_succ]
        refine' take_at 1 (v := _) rfl (by kernel_rfl) (by kernel_rfl) (by kernel_rfl) (fun _ _ _ h => h) rfl ?y205 hHeld ?r205
        case y205 =>
          intro w hSw
          try dsimp only at hSw
          go_simp
          try with_reducible rfl
        try simp only [Act.put, List.setIfInBounds_toArray, List.set_cons_zero, List.set_cons_succ]
        refine step_at 2 (by kernel_rfl) rfl rfl (fun K hK => ?_)
        go_simp
        refine (of_c ⟨#[49, 50, 51, 52, 53, 54, 55, 56, 57]⟩ _).mono ?_
        rintro r wx1 ⟨B1, rfl, hv1, hbx⟩
        have hHX := hHeld.1.out.below hbx
        skip
        clear hHeld hbx
        go_wp2_with fail
        refine hK.out _ _ (PX.S hHX) (fun hHeld => ?_)
        clear hK K hHX
        try simp only [Act.put, List.setIfInBounds_toArray, List.set_cons_zero, List.set_cons_succ]
        refine step_at 3 (by kernel_rfl) rfl rfl (fun K hK => ?_)
        go_simp
        refine (H1.out _ _ hv1).mono ?_
        rintro r wx2 ⟨rfl, hbx⟩
        have hHX := hHeld.1.out.below hbx
        skip
        clear hHeld hbx
        go_wp2_with fail
        refine hK.out _ _ (PX.S hHX) (fun hHeld => ?_)
        clear hK K hHX
        try simp only [Act.put, List.setIfInBounds_toArray, List.set_cons_zero, List.set_cons_succ]
        refine' take_at 4 (v := _) rfl (by kernel_rfl) (by kernel_rfl) (by kernel_rfl) (fun _ _ _ h => h) rfl ?y206 hHeld ?r206
        case y206 =>
          intro w hSw
          try dsimp only at hSw
          go_simp
          try with_reducible rfl
        try simp only [Act.put, List.setIfInBounds_toArray, List.set_cons_zero, List.set_cons_succ]
        refine' take_at 5 (v := _) rfl (by kernel_rfl) (by kernel_rfl) (by kernel_rfl) (fun _ _ _ h => h) rfl ?y207 hHeld ?r207
        case y207 =>
          intro w hSw
          try dsimp only at hSw
          go_simp
          try with_reducible rfl
        try simp only [Act.put, List.setIfInBounds_toArray, List.set_cons_zero, List.set_cons_succ]
        refine' take_at 6 (v := _) rfl (by kernel_rfl) (by kernel_rfl) (by kernel_rfl) (fun _ _ _ h => h) rfl ?y208 hHeld ?r208
        case y208 =>
          intro w hSw
          try dsimp only at hSw
          go_simp
          try with_reducible rfl
        try simp only [Act.put, List.setIfInBounds_toArray, List.set_cons_zero, List.set_cons_succ]
        refine step_at 7 (by kernel_rfl) rfl rfl (fun K hK => ?_)
        go_simp
        refine (of_c ⟨#[35]⟩ _).mono ?_
        rintro r wx3 ⟨B2, rfl, hv2, hbx⟩
        have hHX := hHeld.1.out.below hbx
        skip
        clear hHeld hbx
        go_wp2_with fail
        refine hK.out _ _ (PX.S hHX) (fun hHeld => ?_)
        clear hK K hHX
        try simp only [Act.put, List.setIfInBounds_toArray, List.set_cons_zero, List.set_cons_succ]
        refine step_at 8 (by kernel_rfl) rfl rfl (fun K hK => ?_)
        go_simp
        refine (H2.out _ _ hv2).mono ?_
        rintro r wx4 ⟨rfl, hbx⟩
        have hHX := hHeld.1.out.below hbx
        skip
        clear hHeld hbx
        go_wp2_with fail
        refine hK.out _ _ (PX.S hHX) (fun hHeld => ?_)
        clear hK K hHX
        try simp only [Act.put, List.setIfInBounds_toArray, List.set_cons_zero, List.set_cons_succ]
        refine' take_at 9 (v := _) rfl (by kernel_rfl) (by kernel_rfl) (by kernel_rfl) (fun _ _ _ h => h) rfl ?y209 hHeld ?r209
        case y209 =>
          intro w hSw
          try dsimp only at hSw
          go_simp
          try with_reducible rfl
        try simp only [Act.put, List.setIfInBounds_toArray, List.set_cons_zero, List.set_cons_succ]
        refine' take_at 10 (v := _) rfl (by kernel_rfl) (by kernel_rfl) (by kernel_rfl) (fun _ _ _ h => h) rfl ?y210 hHeld ?r210
        case y210 =>
          intro w hSw
          try dsimp only at hSw
          go_simp
          try with_reducible rfl
        try simp only [Act.put, List.setIfInBounds_toArray, List.set_cons_zero, List.set_cons_succ]
        refine' take_at 11 (v := _) rfl (by kernel_rfl) (by kernel_rfl) (by kernel_rfl) (fun _ _ _ h => h) rfl ?y211 hHeld ?r211
        case y211 =>
          intro w hSw
          try dsimp only at hSw
          go_simp
          try with_reducible rfl
        try simp only [Act.put, List.setIfInBounds_toArray, List.set_cons_zero, List.set_cons_succ]
        refine' take_at 12 (v := _) rfl (by kernel_rfl) (by kernel_rfl) (by kernel_rfl) (fun _ _ _ h => h) rfl ?y212 hHeld ?r212
        case y212 =>
          intro w hSw
          try dsimp only at hSw
          go_simp
          try with_reducible rfl
        try simp only [Act.put, List.setIfInBounds_toArray, List.set_cons_zero, List.set_cons_succ]
        refine' take_at 13 (v := _) rfl (by kernel_rfl) (by kernel_rfl) (by kernel_rfl) (fun _ _ _ h => h) rfl ?y213 hHeld ?r213
        case y213 =>
          intro w hSw
          try dsimp only at hSw
          go_simp
          try with_reducible rfl
        try simp only [Act.put, List.setIfInBounds_toArray, List.set_cons_zero, List.set_cons_succ]
        refine wpAnyH_done (by kernel_rfl) ?_ _
        obtain ⟨HX, c0, c1, c2, c3, c4, c5, c6⟩ := hHeld
        go_wp2
        go_ret
        rw [HER.out]
        exact ⟨rfl, Hg.out ▸ HX.out.b⟩
    · refine wp_region_held_drew (S := (fun W : World => Hid (PX w W g m sc ex wh fr pt ba) ∧ W.cell? ⟨g, 0, none⟩ = some (.string m) ∧ W.cell? ⟨g, 1, none⟩ = some (.bool sc) ∧ W.cell? ⟨g, 2, none⟩ = some (.string ex) ∧ W.cell? ⟨g, 3, none⟩ = some (.string wh) ∧ W.cell? ⟨g, 4, none⟩ = some (.string fr) ∧ W.cell? ⟨g, 5, none⟩ = some (.bool pt) ∧ W.cell? ⟨g, 6, none⟩ = some (.string ba))) (by kernel_rfl) (PX.S HX.out.drew) (fun hHeld => ?_)
      clear HX c0 c1 c2 c3 c4 c5 c6
      refine' take_at 0 (v := _) rfl (by kernel_rfl) (by kernel_rfl) (by kernel_rfl) (fun _ _ _ h => h) rfl ?y214 hHeld ?r214
      case y214 =>
        intro w hSw
        try dsimp only at hSw
        go_simp
        try with_reducible rfl
      try simp only [Act.put, List.setIfInBounds_toArray, List.set_cons_zero, List.set_cons_succ]
      refine' take_at 1 (v := _) rfl (by kernel_rfl) (by kernel_rfl) (by kernel_rfl) (fun _ _ _ h => h) rfl ?y215 hHeld ?r215
      case y215 =>
        intro w hSw
        try dsimp only at hSw
        go_simp
        try with_reducible rfl
      try simp only [Act.put, List.setIfInBounds_toArray, List.set_cons_zero, List.set_cons_succ]
      refine step_at 2 (by kernel_rfl) rfl rfl (fun K hK => ?_)
      go_simp
      refine (of_c ⟨#[49, 50, 51, 52, 53, 54, 55, 56, 57]⟩ _).mono ?_
      rintro r wx1 ⟨B1, rfl, hv1, hbx⟩
      have hHX := hHeld.1.out.below hbx
      skip
      clear hHeld hbx
      go_wp2_with fail
      refine hK.out _ _ (PX.S hHX) (fun hHeld => ?_)
      clear hK K hHX
      try simp only [Act.put, List.setIfInBounds_toArray, List.set_cons_zero, List.set_cons_succ]
      refine step_at 3 (by kernel_rfl) rfl rfl (fun K hK => ?_)
      go_simp
      refine (H1.out _ _ hv1).mono ?_
      rintro r wx2 ⟨rfl, hbx⟩
      have hHX := hHeld.1.out.below hbx
      skip
      clear hHeld hbx
      go_wp2_with fail
      refine hK.out _ _ (PX.S hHX) (fun hHeld => ?_)
      clear hK K hHX
      try simp only [Act.put, List.setIfInBounds_toArray, List.set_cons_zero, List.set_cons_succ]
      refine' take_at 4 (v := _) rfl (by kernel_rfl) (by kernel_rfl) (by kernel_rfl) (fun _ _ _ h => h) rfl ?y216 hHeld ?r216
      case y216 =>
        intro w hSw
        try dsimp only at hSw
        go_simp
        try with_reducible rfl
      try simp only [Act.put, List.setIfInBounds_toArray, List.set_cons_zero, List.set_cons_succ]
      refine' take_at 5 (v := _) rfl (by kernel_rfl) (by kernel_rfl) (by kernel_rfl) (fun _ _ _ h => h) rfl ?y217 hHeld ?r217
      case y217 =>
        intro w hSw
        try dsimp only at hSw
        go_simp
        try with_reducible rfl
      try simp only [Act.put, List.setIfInBounds_toArray, List.set_cons_zero, List.set_cons_succ]
      refine' take_at 6 (v := _) rfl (by kernel_rfl) (by kernel_rfl) (by kernel_rfl) (fun _ _ _ h => h) rfl ?y218 hHeld ?r218
      case y218 =>
        intro w hSw
        try dsimp only at hSw
        go_simp
        try with_reducible rfl
      try simp only [Act.put, List.setIfInBounds_toArray, List.set_cons_zero, List.set_cons_succ]
      refine step_at 7 (by kernel_rfl) rfl rfl (fun K hK => ?_)
      go_simp
      refine (of_c ⟨#[35]⟩ _).mono ?_
      rintro r wx3 ⟨B2, rfl, hv2, hbx⟩
      have hHX := hHeld.1.out.below hbx
      skip
      clear hHeld hbx
      go_wp2_with fail
      refine hK.out _ _ (PX.S hHX) (fun hHeld => ?_)
      clear hK K hHX
      try simp only [Act.put, List.setIfInBounds_toArray, List.set_cons_zero, List.set_cons_succ]
      refine step_at 8 (by kernel_rfl) rfl rfl (fun K hK => ?_)
      go_simp
      refine (H2.out _ _ hv2).mono ?_
      rintro r wx4 ⟨rfl, hbx⟩
      have hHX := hHeld.1.out.below hbx
      skip
      clear hHeld hbx
      go_wp2_with fail
      refine hK.out _ _ (PX.S hHX) (fun hHeld => ?_)
      clear hK K hHX
      try simp only [Act.put, List.setIfInBounds_toArray, List.set_cons_zero, List.set_cons_succ]
      refine' take_at 9 (v := _) rfl (by kernel_rfl) (by kernel_rfl) (by kernel_rfl) (fun _ _ _ h => h) rfl ?y219 hHeld ?r219
      case y219 =>
        intro w hSw
        try dsimp only at hSw
        go_simp
        try with_reducible rfl
      try simp only [Act.put, List.setIfInBounds_toArray, List.set_cons_zero, List.set_cons_succ]
      refine skip_at 10 rfl (by kernel_rfl) (by kernel_rfl) (by kernel_rfl) (fun _ _ _ h => h) rfl hHeld ?_
      try simp only [Act.put, List.setIfInBounds_toArray, List.set_cons_zero, List.set_cons_succ]
      refine skip_at 11 rfl (by kernel_rfl) (by kernel_rfl) (by kernel_rfl) (fun _ _ _ h => h) rfl hHeld ?_
      try simp only [Act.put, List.setIfInBounds_toArray, List.set_cons_zero, List.set_cons_succ]
      refine' take_at 12 (v := _) rfl (by kernel_rfl) (by kernel_rfl) (by kernel_rfl) (fun _ _ _ h => h) rfl ?y222 hHeld ?r222
      case y222 =>
        intro w hSw
        try dsimp only at hSw
        go_simp
        try with_reducible rfl
      try simp only [Act.put, List.setIfInBounds_toArray, List.set_cons_zero, List.set_cons_succ]
      refine' take_at 13 (v := _) rfl (by kernel_rfl) (by kernel_rfl) (by kernel_rfl) (fun _ _ _ h => h) rfl ?y223 hHeld ?r223
      case y223 =>
        intro w hSw
        try dsimp only at hSw
        go_simp
        try with_reducible rfl
      try simp only [Act.put, List.setIfInBounds_toArray, List.set_cons_zero, List.set_cons_succ]
      refine wpAnyH_done (by kernel_rfl) ?_ _
      obtain ⟨HX, c0, c1, c2, c3, c4, c5, c6⟩ := hHeld
      go_wp2
      go_ret
      rw [HER.out]
      exact ⟨rfl, Hg.out ▸ HX.out.b⟩
set_option maxHeartbeats 4000000 in
theorem er8_c (m : ByteArray) (sc : Bool) (ex wh fr : ByteArray) (pt : Bool) (ba : ByteArray) (w : World) (hM : Mw w) :
    Calls Tryz.prog 87 #[.agg (ptV m sc ex wh fr pt ba)] w fun e w' => e = .returned (.int .i64 ((er8 ⟨bts m, sc, bts ex, bts wh, bts fr, pt, bts ba⟩ : Nat) : Int)) ∧ Below w.heap.size w w' := by
  have HX := Lib.hid (PX.new (m := m) (sc := sc) (ex := ex) (wh := wh) (fr := fr) (pt := pt) (ba := ba) hM)
  obtain ⟨c0, c1, c2, c3, c4, c5, c6⟩ := HX.out.cells
  clear hM
  generalize hW : w.alloc (.cells (ptV m sc ex wh fr pt ba) 119) = W at *
  have HW := Lib.hid hW
  clear hW
  generalize hg : w.heap.size = g at *
  have Hg := Lib.hid hg
  clear hg
  have HER := Lib.hid (show er8 ⟨bts m, sc, bts ex, bts wh, bts fr, pt, bts ba⟩ = if sc && ((bts wh).any (inS8 ⟨#[44]⟩) || (cntd ⟨bts m, sc, bts ex, bts wh, bts fr, pt, bts ba⟩ && decide ((bts wh).head? = some 35))) then 6 else 0 by rw [in_44]; rfl)
  have HCT := Lib.hid (fun W (h : Mw W) => cntd_c m sc ex wh fr pt ba W h)
  have HH := Lib.hid (fun w v hv => has15_c ⟨#[44]⟩ wh v w (lo_lit rfl) (by decide) hv)
  have HP : Hid (∀ W, Calls Tryz.prog 70 #[.string wh, .string ⟨#[35]⟩] W fun e w' => e = .returned (.bool (decide ((bts wh).head? = some 35))) ∧ W = w') := Lib.hid (fun W => strPrefix_c wh 35 W)
  generalize er8 ⟨bts m, sc, bts ex, bts wh, bts fr, pt, bts ba⟩ = E at *
  generalize cntd ⟨bts m, sc, bts ex, bts wh, bts fr, pt, bts ba⟩ = bc at *
  generalize (bts wh).any (inS8 ⟨#[44]⟩) = b1 at *
  generalize decide ((bts wh).head? = some 35) = b2 at *
  go_enter Tryz.func87, Tryz.ntmps87
  go_upto_region 1 with fail
  rw [HW.out, Hg.out]
  rcases sc with _ | _
  · refine wp_region_held_drew (S := (fun W : World => Hid (PX w W g m false ex wh fr pt ba) ∧ W.cell? ⟨g, 0, none⟩ = some (.string m) ∧ W.cell? ⟨g, 1, none⟩ = some (.bool false) ∧ W.cell? ⟨g, 2, none⟩ = some (.string ex) ∧ W.cell? ⟨g, 3, none⟩ = some (.string wh) ∧ W.cell? ⟨g, 4, none⟩ = some (.string fr) ∧ W.cell? ⟨g, 5, none⟩ = some (.bool pt) ∧ W.cell? ⟨g, 6, none⟩ = some (.string ba))) (by kernel_rfl) (PX.S HX.out.drew) (fun hHeld => ?_)
    clear HX c0 c1 c2 c3 c4 c5 c6
    refine' take_at 0 (v := _) rfl (by kernel_rfl) (by kernel_rfl) (by kernel_rfl) (fun _ _ _ h => h) rfl ?y224 hHeld ?r224
    case y224 =>
      intro w hSw
      try dsimp only at hSw
      go_simp
      try with_reducible rfl
    try simp only [Act.put, List.setIfInBounds_toArray, List.set_cons_zero, List.set_cons_succ]
    refine' take_at 1 (v := _) rfl (by kernel_rfl) (by kernel_rfl) (by kernel_rfl) (fun _ _ _ h => h) rfl ?y225 hHeld ?r225
    case y225 =>
      intro w hSw
      try dsimp only at hSw
      go_simp
      try with_reducible rfl
    try simp only [Act.put, List.setIfInBounds_toArray, List.set_cons_zero, List.set_cons_succ]
    refine' take_at 2 (v := _) rfl (by kernel_rfl) (by kernel_rfl) (by kernel_rfl) (fun _ _ _ h => h) rfl ?y226 hHeld ?r226
    case y226 =>
      intro w hSw
      try dsimp only at hSw
      go_simp
      try with_reducible rfl
    try simp only [Act.put, List.setIfInBounds_toArray, List.set_cons_zero, List.set_cons_succ]
    refine skip_at 3 rfl (by kernel_rfl) (by kernel_rfl) (by kernel_rfl) (fun _ _ _ h => h) rfl hHeld ?_
    try simp only [Act.put, List.setIfInBounds_toArray, List.set_cons_zero, List.set_cons_succ]
    refine skip_at 4 rfl (by kernel_rfl) (by kernel_rfl) (by kernel_rfl) (fun _ _ _ h => h) rfl hHeld ?_
    try simp only [Act.put, List.setIfInBounds_toArray, List.set_cons_zero, List.set_cons_succ]
    refine skip_at 5 rfl (by kernel_rfl) (by kernel_rfl) (by kernel_rfl) (fun _ _ _ h => h) rfl hHeld ?_
    try simp only [Act.put, List.setIfInBounds_toArray, List.set_cons_zero, List.set_cons_succ]
    refine skip_at 6 rfl (by kernel_rfl) (by kernel_rfl) (by kernel_rfl) (fun _ _ _ h => h) rfl hHeld ?_
    try simp only [Act.put, List.setIfInBounds_toArray, List.set_cons_zero, List.set_cons_succ]
    refine skip_at 7 rfl (by kernel_rfl) (by kernel_rfl) (by kernel_rfl) (fun _ _ _ h => h) rfl hHeld ?_
    try simp only [Act.put, List.setIfInBounds_toArray, List.set_cons_zero, List.set_cons_succ]
    refine skip_at 8 rfl (by kernel_rfl) (by kernel_rfl) (by kernel_rfl) (fun _ _ _ h => h) rfl hHeld ?_
    try simp only [Act.put, List.setIfInBounds_toArray, List.set_cons_zero, List.set_cons_succ]
    refine skip_at 9 rfl (by kernel_rfl) (by kernel_rfl) (by kernel_rfl) (fun _ _ _ h => h) rfl hHeld ?_
    try simp only [Act.put, List.setIfInBounds_toArray, List.set_cons_zero, List.set_cons_succ]
    refine skip_at 10 rfl (by kernel_rfl) (by kernel_rfl) (by kernel_rfl) (fun _ _ _ h => h) rfl hHeld ?_
    try simp only [Act.put, List.setIfInBounds_toArray, List.set_cons_zero, List.set_cons_succ]
    refine skip_at 11 rfl (by kernel_rfl) (by kernel_rfl) (by kernel_rfl) (fun _ _ _ h => h) rfl hHeld ?_
    try simp only [Act.put, List.setIfInBounds_toArray, List.set_cons_zero, List.set_cons_succ]
    refine skip_at 12 rfl (by kernel_rfl) (by kernel_rfl) (by kernel_rfl) (fun _ _ _ h => h) rfl hHeld ?_
    try simp only [Act.put, List.setIfInBounds_toArray, List.set_cons_zero, List.set_cons_succ]
    refine skip_at 13 rfl (by kernel_rfl) (by kernel_rfl) (by kernel_rfl) (fun _ _ _ h => h) rfl hHeld ?_
    try simp only [Act.put, List.setIfInBounds_toArray, List.set_cons_zero, List.set_cons_succ]
    refine skip_at 14 rfl (by kernel_rfl) (by kernel_rfl) (by kernel_rfl) (fun _ _ _ h => h) rfl hHeld ?_
    try simp only [Act.put, List.setIfInBounds_toArray, List.set_cons_zero, List.set_cons_succ]
    refine skip_at 15 rfl (by kernel_rfl) (by kernel_rfl) (by kernel_rfl) (fun _ _ _ h => h) rfl hHeld ?_
    try simp only [Act.put, List.setIfInBounds_toArray, List.set_cons_zero, List.set_cons_succ]
    refine' take_at 16 (v := _) rfl (by kernel_rfl) (by kernel_rfl) (by kernel_rfl) (fun _ _ _ h => h) rfl ?y240 hHeld ?r240
    case y240 =>
      intro w hSw
      try dsimp only at hSw
      go_simp
      try with_reducible rfl
    try simp only [Act.put, List.setIfInBounds_toArray, List.set_cons_zero, List.set_cons_succ]
    refine wpAnyH_done (by kernel_rfl) ?_ _
    obtain ⟨HX, c0, c1, c2, c3, c4, c5, c6⟩ := hHeld
    go_wp2
    go_ret
    rw [HER.out]
    exact ⟨rfl, Hg.out ▸ HX.out.b⟩
  · rcases b1 with _ | _
    · rcases bc with _ | _
      · refine wp_region_held_drew (S := (fun W : World => Hid (PX w W g m true ex wh fr pt ba) ∧ W.cell? ⟨g, 0, none⟩ = some (.string m) ∧ W.cell? ⟨g, 1, none⟩ = some (.bool true) ∧ W.cell? ⟨g, 2, none⟩ = some (.string ex) ∧ W.cell? ⟨g, 3, none⟩ = some (.string wh) ∧ W.cell? ⟨g, 4, none⟩ = some (.string fr) ∧ W.cell? ⟨g, 5, none⟩ = some (.bool pt) ∧ W.cell? ⟨g, 6, none⟩ = some (.string ba))) (by kernel_rfl) (PX.S HX.out.drew) (fun hHeld => ?_)
        clear HX c0 c1 c2 c3 c4 c5 c6
        refine' take_at 0 (v := _) rfl (by kernel_rfl) (by kernel_rfl) (by kernel_rfl) (fun _ _ _ h => h) rfl ?y241 hHeld ?r241
        case y241 =>
          intro w hSw
          try dsimp only at hSw
          go_simp
          try with_reducible rfl
        try simp only [Act.put, List.setIfInBounds_toArray, List.set_cons_zero, List.set_cons_succ]
        refine' take_at 1 (v := _) rfl (by kernel_rfl) (by kernel_rfl) (by kernel_rfl) (fun _ _ _ h => h) rfl ?y242 hHeld ?r242
        case y242 =>
          intro w hSw
          try dsimp only at hSw
          go_simp
          try with_reducible rfl
        try simp only [Act.put, List.setIfInBounds_toArray, List.set_cons_zero, List.set_cons_succ]
        refine' take_at 2 (v := _) rfl (by kernel_rfl) (by kernel_rfl) (by kernel_rfl) (fun _ _ _ h => h) rfl ?y243 hHeld ?r243
        case y243 =>
          intro w hSw
          try dsimp only at hSw
          go_simp
          try with_reducible rfl
        try simp only [Act.put, List.setIfInBounds_toArray, List.set_cons_zero, List.set_cons_succ]
        refine' take_at 3 (v := _) rfl (by kernel_rfl) (by kernel_rfl) (by kernel_rfl) (fun _ _ _ h => h) rfl ?y244 hHeld ?r244
        case y244 =>
          intro w hSw
          try dsimp only at hSw
          go_simp
          try with_reducible rfl
        try simp only [Act.put, List.setIfInBounds_toArray, List.set_cons_zero, List.set_cons_succ]
        refine' take_at 4 (v := _) rfl (by kernel_rfl) (by kernel_rfl) (by kernel_rfl) (fun _ _ _ h => h) rfl ?y245 hHeld ?r245
        case y245 =>
          intro w hSw
          try dsimp only at hSw
          go_simp
          try with_reducible rfl
        try simp only [Act.put, List.setIfInBounds_toArray, List.set_cons_zero, List.set_cons_succ]
        refine step_at 5 (by kernel_rfl) rfl rfl (fun K hK => ?_)
        go_simp
        refine (of_c ⟨#[44]⟩ _).mono ?_
        rintro r wx1 ⟨B1, rfl, hv1, hbx⟩
        have hHX := hHeld.1.out.below hbx
        skip
        clear hHeld hbx
        go_wp2_with fail
        refine hK.out _ _ (PX.S hHX) (fun hHeld => ?_)
        clear hK K hHX
        try simp only [Act.put, List.setIfInBounds_toArray, List.set_cons_zero, List.set_cons_succ]
        refine step_at 6 (by kernel_rfl) rfl rfl (fun K hK => ?_)
        go_simp
        refine (HH.out _ _ hv1).mono ?_
        rintro r wx2 ⟨rfl, hbx⟩
        have hHX := hHeld.1.out.below hbx
        skip
        clear hHeld hbx
        go_wp2_with fail
        refine hK.out _ _ (PX.S hHX) (fun hHeld => ?_)
        clear hK K hHX
        try simp only [Act.put, List.setIfInBounds_toArray, List.set_cons_zero, List.set_cons_succ]
        refine' take_at 7 (v := _) rfl (by kernel_rfl) (by kernel_rfl) (by kernel_rfl) (fun _ _ _ h => h) rfl ?y246 hHeld ?r246
        case y246 =>
          intro w hSw
          try dsimp only at hSw
          go_simp
          try with_reducible rfl
        try simp only [Act.put, List.setIfInBounds_toArray, List.set_cons_zero, List.set_cons_succ]
        refine' take_at 8 (v := _) rfl (by kernel_rfl) (by kernel_rfl) (by kernel_rfl) (fun _ _ _ h => h) rfl ?y247 hHeld ?r247
        case y247 =>
          intro w hSw
          try dsimp only at hSw
          go_simp
          try with_reducible rfl
        try simp only [Act.put, List.setIfInBounds_toArray, List.set_cons_zero, List.set_cons_succ]
        refine step_at 9 (by kernel_rfl) rfl rfl (fun K hK => ?_)
        go_simp
        refine (HCT.out _ hHeld.1.out.mw).mono ?_
        rintro r wx3 ⟨rfl, hbx⟩
        have hHX := hHeld.1.out.below hbx
        skip
        clear hHeld hbx
        go_wp2_with fail
        refine hK.out _ _ (PX.S hHX) (fun hHeld => ?_)
        clear hK K hHX
        try simp only [Act.put, List.setIfInBounds_toArray, List.set_cons_zero, List.set_cons_succ]
        refine' take_at 10 (v := _) rfl (by kernel_rfl) (by kernel_rfl) (by kernel_rfl) (fun _ _ _ h => h) rfl ?y248 hHeld ?r248
        case y248 =>
          intro w hSw
          try dsimp only at hSw
          go_simp
          try with_reducible rfl
        try simp only [Act.put, List.setIfInBounds_toArray, List.set_cons_zero, List.set_cons_succ]
        refine skip_at 11 rfl (by kernel_rfl) (by kernel_rfl) (by kernel_rfl) (fun _ _ _ h => h) rfl hHeld ?_
        try simp only [Act.put, List.setIfInBounds_toArray, List.set_cons_zero, List.set_cons_succ]
        refine skip_at 12 rfl (by kernel_rfl) (by kernel_rfl) (by kernel_rfl) (fun _ _ _ h => h) rfl hHeld ?_
        try simp only [Act.put, List.setIfInBounds_toArray, List.set_cons_zero, List.set_cons_succ]
        refine skip_at 13 rfl (by kernel_rfl) (by kernel_rfl) (by kernel_rfl) (fun _ _ _ h => h) rfl hHeld ?_
        try simp only [Act.put, List.setIfInBounds_toArray, List.set_cons_zero, List.set_cons_succ]
        refine' take_at 14 (v := _) rfl (by kernel_rfl) (by kernel_rfl) (by kernel_rfl) (fun _ _ _ h => h) rfl ?y252 hHeld ?r252
        case y252 =>
          intro w hSw
          try dsimp only at hSw
          go_simp
          try with_reducible rfl
        try simp only [Act.put, List.setIfInBounds_toArray, List.set_cons_zero, List.set_cons_succ]
        refine' take_at 15 (v := _) rfl (by kernel_rfl) (by kernel_rfl) (by kernel_rfl) (fun _ _ _ h => h) rfl ?y253 hHeld ?r253
        case y253 =>
          intro w hSw
          try dsimp only at hSw
          go_simp
          try with_reducible rfl
        try simp only [Act.put, List.setIfInBounds_toArray, List.set_cons_zero, List.set_cons_succ]
        refine' take_at 16 (v := _) rfl (by kernel_rfl) (by kernel_rfl) (by kernel_rfl) (fun _ _ _ h => h) rfl ?y254 hHeld ?r254
        case y254 =>
          intro w hSw
          try dsimp only at hSw
          go_simp
          try with_reducible rfl
        try simp only [Act.put, List.setIfInBounds_toArray, List.set_cons_zero, List.set_cons_succ]
        refine wpAnyH_done (by kernel_rfl) ?_ _
        obtain ⟨HX, c0, c1, c2, c3, c4, c5, c6⟩ := hHeld
        go_wp2
        go_ret
        rw [HER.out]
        exact ⟨rfl, Hg.out ▸ HX.out.b⟩
      · rcases b2 with _ | _
        · refine wp_region_held_drew (S := (fun W : World => Hid (PX w W g m true ex wh fr pt ba) ∧ W.cell? ⟨g, 0, none⟩ = some (.string m) ∧ W.cell? ⟨g, 1, none⟩ = some (.bool true) ∧ W.cell? ⟨g, 2, none⟩ = some (.string ex) ∧ W.cell? ⟨g, 3, none⟩ = some (.string wh) ∧ W.cell? ⟨g, 4, none⟩ = some (.string fr) ∧ W.cell? ⟨g, 5, none⟩ = some (.bool pt) ∧ W.cell? ⟨g, 6, none⟩ = some (.string ba))) (by kernel_rfl) (PX.S HX.out.drew) (fun hHeld => ?_)
          clear HX c0 c1 c2 c3 c4 c5 c6
          refine' take_at 0 (v := _) rfl (by kernel_rfl) (by kernel_rfl) (by kernel_rfl) (fun _ _ _ h => h) rfl ?y255 hHeld ?r255
          case y255 =>
            intro w hSw
            try dsimp only at hSw
            go_simp
            try with_reducible rfl
          try simp only [Act.put, List.setIfInBounds_toArray, List.set_cons_zero, List.set_cons_succ]
          refine' take_at 1 (v := _) rfl (by kernel_rfl) (by kernel_rfl) (by kernel_rfl) (fun _ _ _ h => h) rfl ?y256 hHeld ?r256
          case y256 =>
            intro w hSw
            try dsimp only at hSw
            go_simp
            try with_reducible rfl
          try simp only [Act.put, List.setIfInBounds_toArray, List.set_cons_zero, List.set_cons_succ]
          refine' take_at 2 (v := _) rfl (by kernel_rfl) (by kernel_rfl) (by kernel_rfl) (fun _ _ _ h => h) rfl ?y257 hHeld ?r257
          case y257 =>
            intro w hSw
            try dsimp only at hSw
            go_simp
            try with_reducible rfl
          try simp only [Act.put, List.setIfInBounds_toArray, List.set_cons_zero, List.set_cons_succ]
          refine' take_at 3 (v := _) rfl (by kernel_rfl) (by kernel_rfl) (by kernel_rfl) (fun _ _ _ h => h) rfl ?y258 hHeld ?r258
          case y258 =>
            intro w hSw
            try dsimp only at hSw
            go_simp
            try with_reducible rfl
          try simp only [Act.put, List.setIfInBounds_toArray, List.set_cons_zero, List.set_cons_succ]
          refine' take_at 4 (v := _) rfl (by kernel_rfl) (by kernel_rfl) (by kernel_rfl) (fun _ _ _ h => h) rfl ?y259 hHeld ?r259
          case y259 =>
            intro w hSw
            try dsimp only at hSw
            go_simp
            try with_reducible rfl
          try simp only [Act.put, List.setIfInBounds_toArray, List.set_cons_zero, List.set_cons_succ]
          refine step_at 5 (by kernel_rfl) rfl rfl (fun K hK => ?_)
          go_simp
          refine (of_c ⟨#[44]⟩ _).mono ?_
          rintro r wx1 ⟨B1, rfl, hv1, hbx⟩
          have hHX := hHeld.1.out.below hbx
          skip
          clear hHeld hbx
          go_wp2_with fail
          refine hK.out _ _ (PX.S hHX) (fun hHeld => ?_)
          clear hK K hHX
          try simp only [Act.put, List.setIfInBounds_toArray, List.set_cons_zero, List.set_cons_succ]
          refine step_at 6 (by kernel_rfl) rfl rfl (fun K hK => ?_)
          go_simp
          refine (HH.out _ _ hv1).mono ?_
          rintro r wx2 ⟨rfl, hbx⟩
          have hHX := hHeld.1.out.below hbx
          skip
          clear hHeld hbx
          go_wp2_with fail
          refine hK.out _ _ (PX.S hHX) (fun hHeld => ?_)
          clear hK K hHX
          try simp only [Act.put, List.setIfInBounds_toArray, List.set_cons_zero, List.set_cons_succ]
          refine' take_at 7 (v := _) rfl (by kernel_rfl) (by kernel_rfl) (by kernel_rfl) (fun _ _ _ h => h) rfl ?y260 hHeld ?r260
          case y260 =>
            intro w hSw
            try dsimp only at hSw
            go_simp
            try with_reducible rfl
          try simp only [Act.put, List.setIfInBounds_toArray, List.set_cons_zero, List.set_cons_succ]
          refine' take_at 8 (v := _) rfl (by kernel_rfl) (by kernel_rfl) (by kernel_rfl) (fun _ _ _ h => h) rfl ?y261 hHeld ?r261
          case y261 =>
            intro w hSw
            try dsimp only at hSw
            go_simp
            try with_reducible rfl
          try simp only [Act.put, List.setIfInBounds_toArray, List.set_cons_zero, List.set_cons_succ]
          refine step_at 9 (by kernel_rfl) rfl rfl (fun K hK => ?_)
          go_simp
          refine (HCT.out _ hHeld.1.out.mw).mono ?_
          rintro r wx3 ⟨rfl, hbx⟩
          have hHX := hHeld.1.out.below hbx
          skip
          clear hHeld hbx
          go_wp2_with fail
          refine hK.out _ _ (PX.S hHX) (fun hHeld => ?_)
          clear hK K hHX
          try simp only [Act.put, List.setIfInBounds_toArray, List.set_cons_zero, List.set_cons_succ]
          refine' take_at 10 (v := _) rfl (by kernel_rfl) (by kernel_rfl) (by kernel_rfl) (fun _ _ _ h => h) rfl ?y262 hHeld ?r262
          case y262 =>
            intro w hSw
            try dsimp only at hSw
            go_simp
            try with_reducible rfl
          try simp only [Act.put, List.setIfInBounds_toArray, List.set_cons_zero, List.set_cons_succ]
          refine' take_at 11 (v := _) rfl (by kernel_rfl) (by kernel_rfl) (by kernel_rfl) (fun _ _ _ h => h) rfl ?y263 hHeld ?r263
          case y263 =>
            intro w hSw
            try dsimp only at hSw
            go_simp
            try with_reducible rfl
          try simp only [Act.put, List.setIfInBounds_toArray, List.set_cons_zero, List.set_cons_succ]
          refine' take_at 12 (v := _) rfl (by kernel_rfl) (by kernel_rfl) (by kernel_rfl) (fun _ _ _ h => h) rfl ?y264 hHeld ?r264
          case y264 =>
            intro w hSw
            try dsimp only at hSw
            go_simp
            try with_reducible rfl
          try simp only [Act.put, List.setIfInBounds_toArray, List.set_cons_zero, List.set_cons_succ]
          refine step_at 13 (by kernel_rfl) rfl rfl (fun K hK => ?_)
          go_simp
          refine (HP.out _).mono ?_
          rintro r w1 ⟨rfl, rfl⟩
          go_wp2_with fail
          refine hK.out _ _ hHeld (fun hHeld => ?_)
          clear hK K
          try simp only [Act.put, List.setIfInBounds_toArray, List.set_cons_zero, List.set_cons_succ]
          refine' take_at 14 (v := _) rfl (by kernel_rfl) (by kernel_rfl) (by kernel_rfl) (fun _ _ _ h => h) rfl ?y265 hHeld ?r265
          case y265 =>
            intro w hSw
            try dsimp only at hSw
            go_simp
            try with_reducible rfl
          try simp only [Act.put, List.setIfInBounds_toArray, List.set_cons_zero, List.set_cons_succ]
          refine' take_at 15 (v := _) rfl (by kernel_rfl) (by kernel_rfl) (by kernel_rfl) (fun _ _ _ h => h) rfl ?y266 hHeld ?r266
          case y266 =>
            intro w hSw
            try dsimp only at hSw
            go_simp
            try with_reducible rfl
          try simp only [Act.put, List.setIfInBounds_toArray, List.set_cons_zero, List.set_cons_succ]
          refine' take_at 16 (v := _) rfl (by kernel_rfl) (by kernel_rfl) (by kernel_rfl) (fun _ _ _ h => h) rfl ?y267 hHeld ?r267
          case y267 =>
            intro w hSw
            try dsimp only at hSw
            go_simp
            try with_reducible rfl
          try simp only [Act.put, List.setIfInBounds_toArray, List.set_cons_zero, List.set_cons_succ]
          refine wpAnyH_done (by kernel_rfl) ?_ _
          obtain ⟨HX, c0, c1, c2, c3, c4, c5, c6⟩ := hHeld
          go_wp2
          go_ret
          rw [HER.out]
          exact ⟨rfl, Hg.out ▸ HX.out.b⟩
        · refine wp_region_held_drew (S := (fun W : World => Hid (PX w W g m true ex wh fr pt ba) ∧ W.cell? ⟨g, 0, none⟩ = some (.string m) ∧ W.cell? ⟨g, 1, none⟩ = some (.bool true) ∧ W.cell? ⟨g, 2, none⟩ = some (.string ex) ∧ W.cell? ⟨g, 3, none⟩ = some (.string wh) ∧ W.cell? ⟨g, 4, none⟩ = some (.string fr) ∧ W.cell? ⟨g, 5, none⟩ = some (.bool pt) ∧ W.cell? ⟨g, 6, none⟩ = some (.string ba))) (by kernel_rfl) (PX.S HX.out.drew) (fun hHeld => ?_)
          clear HX c0 c1 c2 c3 c4 c5 c6
          refine' take_at 0 (v := _) rfl (by kernel_rfl) (by kernel_rfl) (by kernel_rfl) (fun _ _ _ h => h) rfl ?y268 hHeld ?r268
          case y268 =>
            intro w hSw
            try dsimp only at hSw
            go_simp
            try with_reducible rfl
          try simp only [Act.put, List.setIfInBounds_toArray, List.set_cons_zero, List.set_cons_succ]
          refine' take_at 1 (v := _) rfl (by kernel_rfl) (by kernel_rfl) (by kernel_rfl) (fun _ _ _ h => h) rfl ?y269 hHeld ?r269
          case y269 =>
            intro w hSw
            try dsimp only at hSw
            go_simp
            try with_reducible rfl
          try simp only [Act.put, List.setIfInBounds_toArray, List.set_cons_zero, List.set_cons_succ]
          refine' take_at 2 (v := _) rfl (by kernel_rfl) (by kernel_rfl) (by kernel_rfl) (fun _ _ _ h => h) rfl ?y270 hHeld ?r270
          case y270 =>
            intro w hSw
            try dsimp only at hSw
            go_simp
            try with_reducible rfl
          try simp only [Act.put, List.setIfInBounds_toArray, List.set_cons_zero, List.set_cons_succ]
          refine' take_at 3 (v := _) rfl (by kernel_rfl) (by kernel_rfl) (by kernel_rfl) (fun _ _ _ h => h) rfl ?y271 hHeld ?r271
          case y271 =>
            intro w hSw
            try dsimp only at hSw
            go_simp
            try with_reducible rfl
          try simp only [Act.put, List.setIfInBounds_toArray, List.set_cons_zero, List.set_cons_succ]
          refine' take_at 4 (v := _) rfl (by kernel_rfl) (by kernel_rfl) (by kernel_rfl) (fun _ _ _ h => h) rfl ?y272 hHeld ?r272
          case y272 =>
            intro w hSw
            try dsimp only at hSw
            go_simp
            try with_reducible rfl
          try simp only [Act.put, List.setIfInBounds_toArray, List.set_cons_zero, List.set_cons_succ]
          refine step_at 5 (by kernel_rfl) rfl rfl (fun K hK => ?_)
          go_simp
          refine (of_c ⟨#[44]⟩ _).mono ?_
          rintro r wx1 ⟨B1, rfl, hv1, hbx⟩
          have hHX := hHeld.1.out.below hbx
          skip
          clear hHeld hbx
          go_wp2_with fail
          refine hK.out _ _ (PX.S hHX) (fun hHeld => ?_)
          clear hK K hHX
          try simp only [Act.put, List.setIfInBounds_toArray, List.set_cons_zero, List.set_cons_succ]
          refine step_at 6 (by kernel_rfl) rfl rfl (fun K hK => ?_)
          go_simp
          refine (HH.out _ _ hv1).mono ?_
          rintro r wx2 ⟨rfl, hbx⟩
          have hHX := hHeld.1.out.below hbx
          skip
          clear hHeld hbx
          go_wp2_with fail
          refine hK.out _ _ (PX.S hHX) (fun hHeld => ?_)
          clear hK K hHX
          try simp only [Act.put, List.setIfInBounds_toArray, List.set_cons_zero, List.set_cons_succ]
          refine' take_at 7 (v := _) rfl (by kernel_rfl) (by kernel_rfl) (by kernel_rfl) (fun _ _ _ h => h) rfl ?y273 hHeld ?r273
          case y273 =>
            intro w hSw
            try dsimp only at hSw
            go_simp
            try with_reducible rfl
          try simp only [Act.put, List.setIfInBounds_toArray, List.set_cons_zero, List.set_cons_succ]
          refine' take_at 8 (v := _) rfl (by kernel_rfl) (by kernel_rfl) (by kernel_rfl) (fun _ _ _ h => h) rfl ?y274 hHeld ?r274
          case y274 =>
            intro w hSw
            try dsimp only at hSw
            go_simp
            try with_reducible rfl
          try simp only [Act.put, List.setIfInBounds_toArray, List.set_cons_zero, List.set_cons_succ]
          refine step_at 9 (by kernel_rfl) rfl rfl (fun K hK => ?_)
          go_simp
          refine (HCT.out _ hHeld.1.out.mw).mono ?_
          rintro r wx3 ⟨rfl, hbx⟩
          have hHX := hHeld.1.out.below hbx
          skip
          clear hHeld hbx
          go_wp2_with fail
          refine hK.out _ _ (PX.S hHX) (fun hHeld => ?_)
          clear hK K hHX
          try simp only [Act.put, List.setIfInBounds_toArray, List.set_cons_zero, List.set_cons_succ]
          refine' take_at 10 (v := _) rfl (by kernel_rfl) (by kernel_rfl) (by kernel_rfl) (fun _ _ _ h => h) rfl ?y275 hHeld ?r275
          case y275 =>
            intro w hSw
            try dsimp only at hSw
            go_simp
            try with_reducible rfl
          try simp only [Act.put, List.setIfInBounds_toArray, List.set_cons_zero, List.set_cons_succ]
          refine' take_at 11 (v := _) rfl (by kernel_rfl) (by kernel_rfl) (by kernel_rfl) (fun _ _ _ h => h) rfl ?y276 hHeld ?r276
          case y276 =>
            intro w hSw
            try dsimp only at hSw
            go_simp
            try with_reducible rfl
          try simp only [Act.put, List.setIfInBounds_toArray, List.set_cons_zero, List.set_cons_succ]
          refine' take_at 12 (v := _) rfl (by kernel_rfl) (by kernel_rfl) (by kernel_rfl) (fun _ _ _ h => h) rfl ?y277 hHeld ?r277
          case y277 =>
            intro w hSw
            try dsimp only at hSw
            go_simp
            try with_reducible rfl
          try simp only [Act.put, List.setIfInBounds_toArray, List.set_cons_zero, List.set_cons_succ]
          refine step_at 13 (by kernel_rfl) rfl rfl (fun K hK => ?_)
          go_simp
          refine (HP.out _).mono ?_
          rintro r w1 ⟨rfl, rfl⟩
          go_wp2_with fail
          refine hK.out _ _ hHeld (fun hHeld => ?_)
          clear hK K
          try simp only [Act.put, List.setIfInBounds_toArray, List.set_cons_zero, List.set_cons_succ]
          refine' take_at 14 (v := _) rfl (by kernel_rfl) (by kernel_rfl) (by kernel_rfl) (fun _ _ _ h => h) rfl ?y278 hHeld ?r278
          case y278 =>
            intro w hSw
            try dsimp only at hSw
            go_simp
            try with_reducible rfl
          try simp only [Act.put, List.setIfInBounds_toArray, List.set_cons_zero, List.set_cons_succ]
          refine' take_at 15 (v := _) rfl (by kernel_rfl) (by kernel_rfl) (by kernel_rfl) (fun _ _ _ h => h) rfl ?y279 hHeld ?r279
          case y279 =>
            intro w hSw
            try dsimp only at hSw
            go_simp
            try with_reducible rfl
          try simp only [Act.put, List.setIfInBounds_toArray, List.set_cons_zero, List.set_cons_succ]
          refine' take_at 16 (v := _) rfl (by kernel_rfl) (by kernel_rfl) (by kernel_rfl) (fun _ _ _ h => h) rfl ?y280 hHeld ?r280
          case y280 =>
            intro w hSw
            try dsimp only at hSw
            go_simp
            try with_reducible rfl
          try simp only [Act.put, List.setIfInBounds_toArray, List.set_cons_zero, List.set_cons_succ]
          refine wpAnyH_done (by kernel_rfl) ?_ _
          obtain ⟨HX, c0, c1, c2, c3, c4, c5, c6⟩ := hHeld
          go_wp2
          go_ret
          rw [HER.out]
          exact ⟨rfl, Hg.out ▸ HX.out.b⟩
    · refine wp_region_held_drew (S := (fun W : World => Hid (PX w W g m true ex wh fr pt ba) ∧ W.cell? ⟨g, 0, none⟩ = some (.string m) ∧ W.cell? ⟨g, 1, none⟩ = some (.bool true) ∧ W.cell? ⟨g, 2, none⟩ = some (.string ex) ∧ W.cell? ⟨g, 3, none⟩ = some (.string wh) ∧ W.cell? ⟨g, 4, none⟩ = some (.string fr) ∧ W.cell? ⟨g, 5, none⟩ = some (.bool pt) ∧ W.cell? ⟨g, 6, none⟩ = some (.string ba))) (by kernel_rfl) (PX.S HX.out.drew) (fun hHeld => ?_)
      clear HX c0 c1 c2 c3 c4 c5 c6
      refine' take_at 0 (v := _) rfl (by kernel_rfl) (by kernel_rfl) (by kernel_rfl) (fun _ _ _ h => h) rfl ?y281 hHeld ?r281
      case y281 =>
        intro w hSw
        try dsimp only at hSw
        go_simp
        try with_reducible rfl
      try simp only [Act.put, List.setIfInBounds_toArray, List.set_cons_zero, List.set_cons_succ]
      refine' take_at 1 (v := _) rfl (by kernel_rfl) (by kernel_rfl) (by kernel_rfl) (fun _ _ _ h => h) rfl ?y282 hHeld ?r282
      case y282 =>
        intro w hSw
        try dsimp only at hSw
        go_simp
        try with_reducible rfl
      try simp only [Act.put, List.setIfInBounds_toArray, List.set_cons_zero, List.set_cons_succ]
      refine' take_at 2 (v := _) rfl (by kernel_rfl) (by kernel_rfl) (by kernel_rfl) (fun _ _ _ h => h) rfl ?y283 hHeld ?r283
      case y283 =>
        intro w hSw
        try dsimp only at hSw
        go_simp
        try with_reducible rfl
      try simp only [Act.put, List.setIfInBounds_toArray, List.set_cons_zero, List.set_cons_succ]
      refine' take_at 3 (v := _) rfl (by kernel_rfl) (by kernel_rfl) (by kernel_rfl) (fun _ _ _ h => h) rfl ?y284 hHeld ?r284
      case y284 =>
        intro w hSw
        try dsimp only at hSw
        go_simp
        try with_reducible rfl
      try simp only [Act.put, List.setIfInBounds_toArray, List.set_cons_zero, List.set_cons_succ]
      refine' take_at 4 (v := _) rfl (by kernel_rfl) (by kernel_rfl) (by kernel_rfl) (fun _ _ _ h => h) rfl ?y285 hHeld ?r285
      case y285 =>
        intro w hSw
        try dsimp only at hSw
        go_simp
        try with_reducible rfl
      try simp only [Act.put, List.setIfInBounds_toArray, List.set_cons_zero, List.set_cons_succ]
      refine step_at 5 (by kernel_rfl) rfl rfl (fun K hK => ?_)
      go_simp
      refine (of_c ⟨#[44]⟩ _).mono ?_
      rintro r wx1 ⟨B1, rfl, hv1, hbx⟩
      have hHX := hHeld.1.out.below hbx
      skip
      clear hHeld hbx
      go_wp2_with fail
      refine hK.out _ _ (PX.S hHX) (fun hHeld => ?_)
      clear hK K hHX
      try simp only [Act.put, List.setIfInBounds_toArray, List.set_cons_zero, List.set_cons_succ]
      refine step_at 6 (by kernel_rfl) rfl rfl (fun K hK => ?_)
      go_simp
      refine (HH.out _ _ hv1).mono ?_
      rintro r wx2 ⟨rfl, hbx⟩
      have hHX := hHeld.1.out.below hbx
      skip
      clear hHeld hbx
      go_wp2_with fail
      refine hK.out _ _ (PX.S hHX) (fun hHeld => ?_)
      clear hK K hHX
      try simp only [Act.put, List.setIfInBounds_toArray, List.set_cons_zero, List.set_cons_succ]
      refine' take_at 7 (v := _) rfl (by kernel_rfl) (by kernel_rfl) (by kernel_rfl) (fun _ _ _ h => h) rfl ?y286 hHeld ?r286
      case y286 =>
        intro w hSw
        try dsimp only at hSw
        go_simp
        try with_reducible rfl
      try simp only [Act.put, List.setIfInBounds_toArray, List.set_cons_zero, List.set_cons_succ]
      refine skip_at 8 rfl (by kernel_rfl) (by kernel_rfl) (by kernel_rfl) (fun _ _ _ h => h) rfl hHeld ?_
      try simp only [Act.put, List.setIfInBounds_toArray, List.set_cons_zero, List.set_cons_succ]
      refine skip_at 9 rfl (by kernel_rfl) (by kernel_rfl) (by kernel_rfl) (fun _ _ _ h => h) rfl hHeld ?_
      try simp only [Act.put, List.setIfInBounds_toArray, List.set_cons_zero, List.set_cons_succ]
      refine skip_at 10 rfl (by kernel_rfl) (by kernel_rfl) (by kernel_rfl) (fun _ _ _ h => h) rfl hHeld ?_
      try simp only [Act.put, List.setIfInBounds_toArray, List.set_cons_zero, List.set_cons_succ]
      refine skip_at 11 rfl (by kernel_rfl) (by kernel_rfl) (by kernel_rfl) (fun _ _ _ h => h) rfl hHeld ?_
      try simp only [Act.put, List.setIfInBounds_toArray, List.set_cons_zero, List.set_cons_succ]
      refine skip_at 12 rfl (by kernel_rfl) (by kernel_rfl) (by kernel_rfl) (fun _ _ _ h => h) rfl hHeld ?_
      try simp only [Act.put, List.setIfInBounds_toArray, List.set_cons_zero, List.set_cons_succ]
      refine skip_at 13 rfl (by kernel_rfl) (by kernel_rfl) (by kernel_rfl) (fun _ _ _ h => h) rfl hHeld ?_
      try simp only [Act.put, List.setIfInBounds_toArray, List.set_cons_zero, List.set_cons_succ]
      refine skip_at 14 rfl (by kernel_rfl) (by kernel_rfl) (by kernel_rfl) (fun _ _ _ h => h) rfl hHeld ?_
      try simp only [Act.put, List.setIfInBounds_toArray, List.set_cons_zero, List.set_cons_succ]
      refine' take_at 15 (v := _) rfl (by kernel_rfl) (by kernel_rfl) (by kernel_rfl) (fun _ _ _ h => h) rfl ?y294 hHeld ?r294
      case y294 =>
        intro w hSw
        try dsimp only at hSw
        go_simp
        try with_reducible rfl
      try simp only [Act.put, List.setIfInBounds_toArray, List.set_cons_zero, List.set_cons_succ]
      refine' take_at 16 (v := _) rfl (by kernel_rfl) (by kernel_rfl) (by kernel_rfl) (fun _ _ _ h => h) rfl ?y295 hHeld ?r295
      case y295 =>
        intro w hSw
        try dsimp only at hSw
        go_simp
        try with_reducible rfl
      try simp only [Act.put, List.setIfInBounds_toArray, List.set_cons_zero, List.set_cons_succ]
      refine wpAnyH_done (by kernel_rfl) ?_ _
      obtain ⟨HX, c0, c1, c2, c3, c4, c5, c6⟩ := hHeld
      go_wp2
      go_ret
      rw [HER.out]
      exact ⟨rfl, Hg.out ▸ HX.out.b⟩
end Go.Proofs.YtbjelkejifgnfaaGreatDoor
