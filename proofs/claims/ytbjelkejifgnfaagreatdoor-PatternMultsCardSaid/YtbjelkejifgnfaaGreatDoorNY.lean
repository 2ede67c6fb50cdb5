/-
  NY: what the frame of layer 15's laws hands over: MaxLen's cell.
-/
import Derived.Test.YtbjelkejifgnfaaGreatDoorMD
set_option maxRecDepth 100000
namespace Go.Proofs.YtbjelkejifgnfaaGreatDoor
open Go.RowKit
theorem mw_open {W : World} (h : W.ShapedOpen Tryz.prog) : Mw W := by
  obtain ⟨m, hm⟩ := Tryz.laysM219.s1_3 W h
  exact ⟨m, hm, World.block_lt_of_cell? W _ hm⟩
end Go.Proofs.YtbjelkejifgnfaaGreatDoor
