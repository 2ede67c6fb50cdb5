/-
  PatternMults, walked.
-/
import Derived.Test.YtbjelkejifgnfaaGreatDoorPX
import Derived.Test.YtbjelkejifgnfaaGreatDoorPY
set_option maxRecDepth 100000
namespace Go.Proofs.YtbjelkejifgnfaaGreatDoor
open Go.RowKit
set_option maxHeartbeats 4000000 in
theorem walk_patternMults (PV : Array Value) (i0 i1 i3 i4 : List Itm) (w : World) (haf : Aff w PV i0 i1 i3 i4) (hM : Mw w) : Calls Tryz.prog 6 #[.agg PV] w fun e w' => e = .returned (.bool true) ∧ Below w.heap.size w w' := by
  have HA := Lib.hid (fun W (h : Mw W) => answers16_c W h)
  have HM := Lib.hid hM
  have hsz := haf.sz
  have hbx := BX.new w PV 25
  have HB0 := Lib.hid (below_new w (.cells PV 25))
  have HAW := Lib.hid (haf.below HB0.out)
  clear haf hM
  go_enter Tryz.func6, Tryz.ntmps6
  go_upto_region 1 with fail
  generalize w.alloc (.cells PV 25) = W at *
  generalize hg : w.heap.size = g at *
  have HGe := Lib.hid hg
  have HLE := Lib.hid (show g ≤ W.heap.size from hg ▸ HB0.out.size)
  clear hg
  have HP := Lib.hid (fun W' (hb : Below W.heap.size W W') => pmult_c PV i0 i1 i3 i4 W' (HAW.out.below hb))
  have HR := Lib.hid (fun W' (hb : Below W.heap.size W W') => refMult_c PV i0 i1 i3 i4 W' (HAW.out.below hb))
  generalize mulK i0 i1 i3 i4 = m at *
  refine wp_region_held_drew (S := (fun W9 : World => Hid (Below W.heap.size W W9 ∧ BX W9 g PV 25))) (by kernel_rfl) (Lib.hid ⟨(Below.refl _ _).drew, hbx⟩) (fun hHeld => ?_)
  refine step_at 0 (by kernel_rfl) rfl rfl (fun K hK => ?_)
  go_simp
  refine (HA.out _ (HM.out.below (HGe.out ▸ HB0.out.trans (hHeld.out.1.mono HLE.out)))).mono ?_
  rintro r wr ⟨rfl, hb⟩
  have hS := Lib.hid (show Below W.heap.size W wr ∧ BX wr g PV 25 from ⟨hHeld.out.1.trans (hb.mono hHeld.out.1.size), hHeld.out.2.below hb hHeld.out.2.lt⟩)
  clear hHeld hb
  go_wp2_with fail
  refine hK.out _ _ hS (fun hHeld => ?_)
  clear hK K hS
  try simp only [Act.put, List.setIfInBounds_toArray, List.set_cons_zero, List.set_cons_succ]
  refine' take_at 1 (v := _) rfl (by kernel_rfl) (by kernel_rfl) (by kernel_rfl) (fun _ _ _ h => h) rfl ?y1 hHeld ?r1
  case y1 =>
    intro w hSw
    try dsimp only at hSw
    go_simp
    try with_reducible rfl
  try simp only [Act.put, List.setIfInBounds_toArray, List.set_cons_zero, List.set_cons_succ]
  refine' take_at 2 (v := _) rfl (by kernel_rfl) (by kernel_rfl) (by kernel_rfl) (fun _ _ _ h => h) rfl ?y2 hHeld ?r2
  case y2 =>
    intro w hSw
    try dsimp only at hSw
    refine exec_load_row 25 (Operand.tmp 1) ?_ g ?_ 25 _ (0, 0) _ hSw.out.2 Tryz.underlying25 rfl hsz
    · rfl
    · rfl
  try simp only [Act.put, List.setIfInBounds_toArray, List.set_cons_zero, List.set_cons_succ]
  refine' take_at 4 (v := _) rfl (by kernel_rfl) (by kernel_rfl) (by kernel_rfl) (fun _ _ _ h => h) rfl ?y3 hHeld ?r3
  case y3 =>
    intro w hSw
    try dsimp only at hSw
    refine exec_load_row 25 (Operand.tmp 1) ?_ g ?_ 25 _ (0, 0) _ hSw.out.2 Tryz.underlying25 rfl hsz
    · rfl
    · rfl
  try simp only [Act.put, List.setIfInBounds_toArray, List.set_cons_zero, List.set_cons_succ]
  refine step_at 3 (by kernel_rfl) rfl rfl (fun K hK => ?_)
  go_simp
  refine (HP.out _ hHeld.out.1).mono ?_
  rintro r wr ⟨rfl, hb⟩
  have hS := Lib.hid (show Below W.heap.size W wr ∧ BX wr g PV 25 from ⟨hHeld.out.1.trans (hb.mono hHeld.out.1.size), hHeld.out.2.below hb hHeld.out.2.lt⟩)
  clear hHeld hb
  go_wp2_with fail
  refine hK.out _ _ hS (fun hHeld => ?_)
  clear hK K hS
  try simp only [Act.put, List.setIfInBounds_toArray, List.set_cons_zero, List.set_cons_succ]
  refine step_at 5 (by kernel_rfl) rfl rfl (fun K hK => ?_)
  go_simp
  refine (HR.out _ hHeld.out.1).mono ?_
  rintro r wr ⟨rfl, hb⟩
  have hS := Lib.hid (show Below W.heap.size W wr ∧ BX wr g PV 25 from ⟨hHeld.out.1.trans (hb.mono hHeld.out.1.size), hHeld.out.2.below hb hHeld.out.2.lt⟩)
  clear hHeld hb
  go_wp2_with fail
  refine hK.out _ _ hS (fun hHeld => ?_)
  clear hK K hS
  try simp only [Act.put, List.setIfInBounds_toArray, List.set_cons_zero, List.set_cons_succ]
  refine' take_at 6 (v := _) rfl (by kernel_rfl) (by kernel_rfl) (by kernel_rfl) (fun _ _ _ h => h) rfl ?y4 hHeld ?r4
  case y4 =>
    intro w hSw
    try dsimp only at hSw
    go_simp
    try with_reducible rfl
  try simp only [Act.put, List.setIfInBounds_toArray, List.set_cons_zero, List.set_cons_succ]
  refine' take_at 7 (v := _) rfl (by kernel_rfl) (by kernel_rfl) (by kernel_rfl) (fun _ _ _ h => h) rfl ?y5 hHeld ?r5
  case y5 =>
    intro w hSw
    try dsimp only at hSw
    go_simp
    try with_reducible rfl
  try simp only [Act.put, List.setIfInBounds_toArray, List.set_cons_zero, List.set_cons_succ]
  refine' take_at 8 (v := _) rfl (by kernel_rfl) (by kernel_rfl) (by kernel_rfl) (fun _ _ _ h => h) rfl ?y6 hHeld ?r6
  case y6 =>
    intro w hSw
    try dsimp only at hSw
    go_simp
    try with_reducible rfl
  try simp only [Act.put, List.setIfInBounds_toArray, List.set_cons_zero, List.set_cons_succ]
  refine wpAnyH_done (by kernel_rfl) ?_ _
  have HBe := Lib.hid hHeld.out.1
  clear hHeld
  go_wp2
  go_ret
  exact ⟨rfl, HGe.out ▸ HB0.out.trans (HBe.out.mono HLE.out)⟩
end Go.Proofs.YtbjelkejifgnfaaGreatDoor
