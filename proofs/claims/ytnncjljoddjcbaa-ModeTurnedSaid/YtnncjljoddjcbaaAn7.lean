/-
  An7: what a program that does nothing does not answer (layer 7).
-/
import Derived.Test.YtnncjljoddjcbaaMd7
namespace Go.Proofs.Ytnncjljoddjcbaa
open Go.RowKit
set_option maxHeartbeats 2000000 in
theorem answers7_c (w : World) : Calls Try.prog 7 #[] w fun e w' => e = .returned (.bool true) ∧ Below w.heap.size w w' := by
  have G7 := Lib.hid (fun W => modeGood_c 7 W)
  have G8 := Lib.hid (fun W => modeGood_c 8 W)
  have A2 := Lib.hid (fun W => modeAway_c 2 false false (-1) W)
  have A4 := Lib.hid (fun W => modeAway_c 4 false false 0 W)
  have A5 := Lib.hid (fun W => modeAway_c 4 false true 0 W)
  rw [show isWay 7 = true from rfl] at G7
  rw [show isWay 8 = false from rfl] at G8
  rw [show awayB 2 false false (-1) = true from rfl] at A2
  rw [show awayB 4 false false 0 = false from rfl] at A4
  rw [show awayB 4 false true 0 = true from rfl] at A5
  go_enter Try.func7, Try.ntmps7
  go_wp2_with fail
  refine (G7.out _).mono ?_
  rintro e w1 ⟨rfl, rfl⟩
  go_wp2_with fail
  refine (G8.out _).mono ?_
  rintro e w1 ⟨rfl, rfl⟩
  go_wp2_with fail
  refine (A2.out _).mono ?_
  rintro e w1 ⟨rfl, hb⟩
  have B1 := Lib.hid hb
  clear hb
  go_wp2_with fail
  refine (A4.out _).mono ?_
  rintro e w2 ⟨rfl, hb⟩
  have B2 := Lib.hid (B1.out.trans (hb.mono B1.out.size))
  clear hb
  go_wp2_with fail
  refine (A5.out _).mono ?_
  rintro e w3 ⟨rfl, hb⟩
  have B3 := Lib.hid (B2.out.trans (hb.mono B2.out.size))
  clear hb
  go_wp2
  go_ret
  exact ⟨rfl, B3.out⟩
end Go.Proofs.Ytnncjljoddjcbaa
