/-
  ModeEnds: the walk.
-/
import Derived.Test.YtnncjljoddjcbaaAn7
namespace Go.Proofs.Ytnncjljoddjcbaa
open Go.RowKit
set_option maxHeartbeats 2000000 in
theorem walk_modeEnds (n o : Bool) (h : Int) (w : World) (_ : -9223372036854775808 ≤ h ∧ h ≤ 9223372036854775807) :
    Calls Try.prog 6 #[.bool n, .bool o, .int .i64 h] w fun e w' => e = .returned (.bool true) ∧ Below w.heap.size w w' := by
  have A2 := Lib.hid (fun W => modeAway_c 2 n o h W)
  rw [show awayB 2 n o h = true from rfl] at A2
  have A3 := Lib.hid (fun W => modeAway_c 3 n o h W)
  rw [show awayB 3 n o h = false from rfl] at A3
  have A7 := Lib.hid (fun W => modeAway_c 7 n o h W)
  rw [show awayB 7 n o h = false from rfl] at A7
  have A0 := Lib.hid (fun W => modeAway_c 0 n o h W)
  rw [show awayB 0 n o h = (!n) from rfl] at A0
  have A1 := Lib.hid (fun W => modeAway_c 1 n o h W)
  rw [show awayB 1 n o h = n from rfl] at A1
  have A5 := Lib.hid (fun W => modeAway_c 5 n o h W)
  rw [show awayB 5 n o h = (decide (0 ≤ h)) from rfl] at A5
  have A6 := Lib.hid (fun W => modeAway_c 6 n o h W)
  have A4 := Lib.hid (fun W => modeAway_c 4 n o h W)
  by_cases hp : 0 < h
  · rw [show awayB 6 n o h = true by unfold awayB; simp; omega] at A6
    rw [show awayB 4 n o h = true by unfold awayB; simp; omega] at A4
    cases n
    all_goals
      go_enter Try.func6, Try.ntmps6
      have B0 := Lib.hid (Below.refl w.heap.size w)
      go_wp2_with fail
      refine (answers7_c _).mono ?_
      rintro e w1 ⟨rfl, hb⟩
      have B1 := Lib.hid (B0.out.trans (hb.mono B0.out.size))
      clear hb
      go_wp2_with fail
      refine (A2.out _).mono ?_
      rintro e w2 ⟨rfl, hb⟩
      have B2 := Lib.hid (B1.out.trans (hb.mono B1.out.size))
      clear hb
      go_wp2_with fail
      refine (A3.out _).mono ?_
      rintro e w3 ⟨rfl, hb⟩
      have B3 := Lib.hid (B2.out.trans (hb.mono B2.out.size))
      clear hb
      go_wp2_with fail
      refine (A7.out _).mono ?_
      rintro e w4 ⟨rfl, hb⟩
      have B4 := Lib.hid (B3.out.trans (hb.mono B3.out.size))
      clear hb
      go_wp2_with fail
      refine (A0.out _).mono ?_
      rintro e w5 ⟨rfl, hb⟩
      have B5 := Lib.hid (B4.out.trans (hb.mono B4.out.size))
      clear hb
      go_wp2_with fail
      refine (A1.out _).mono ?_
      rintro e w6 ⟨rfl, hb⟩
      have B6 := Lib.hid (B5.out.trans (hb.mono B5.out.size))
      clear hb
      go_wp2_with fail
      refine (A5.out _).mono ?_
      rintro e w7 ⟨rfl, hb⟩
      have B7 := Lib.hid (B6.out.trans (hb.mono B6.out.size))
      clear hb
      go_wp2_with fail
      refine (A6.out _).mono ?_
      rintro e w8 ⟨rfl, hb⟩
      have B8 := Lib.hid (B7.out.trans (hb.mono B7.out.size))
      clear hb
      go_wp2_with fail
      refine (A4.out _).mono ?_
      rintro e w9 ⟨rfl, hb⟩
      have B9 := Lib.hid (B8.out.trans (hb.mono B8.out.size))
      clear hb
      go_wp2
      go_ret
      exact ⟨rfl, B9.out⟩
  · rw [show awayB 6 n o h = false by unfold awayB; simp; omega] at A6
    cases n
    all_goals
      go_enter Try.func6, Try.ntmps6
      have B0 := Lib.hid (Below.refl w.heap.size w)
      go_wp2_with fail
      refine (answers7_c _).mono ?_
      rintro e w1 ⟨rfl, hb⟩
      have B1 := Lib.hid (B0.out.trans (hb.mono B0.out.size))
      clear hb
      go_wp2_with fail
      refine (A2.out _).mono ?_
      rintro e w2 ⟨rfl, hb⟩
      have B2 := Lib.hid (B1.out.trans (hb.mono B1.out.size))
      clear hb
      go_wp2_with fail
      refine (A3.out _).mono ?_
      rintro e w3 ⟨rfl, hb⟩
      have B3 := Lib.hid (B2.out.trans (hb.mono B2.out.size))
      clear hb
      go_wp2_with fail
      refine (A7.out _).mono ?_
      rintro e w4 ⟨rfl, hb⟩
      have B4 := Lib.hid (B3.out.trans (hb.mono B3.out.size))
      clear hb
      go_wp2_with fail
      refine (A0.out _).mono ?_
      rintro e w5 ⟨rfl, hb⟩
      have B5 := Lib.hid (B4.out.trans (hb.mono B4.out.size))
      clear hb
      go_wp2_with fail
      refine (A1.out _).mono ?_
      rintro e w6 ⟨rfl, hb⟩
      have B6 := Lib.hid (B5.out.trans (hb.mono B5.out.size))
      clear hb
      go_wp2_with fail
      refine (A5.out _).mono ?_
      rintro e w7 ⟨rfl, hb⟩
      have B7 := Lib.hid (B6.out.trans (hb.mono B6.out.size))
      clear hb
      go_wp2_with fail
      refine (A6.out _).mono ?_
      rintro e w8 ⟨rfl, hb⟩
      have B8 := Lib.hid (B7.out.trans (hb.mono B7.out.size))
      clear hb
      go_wp2
      go_ret
      exact ⟨rfl, B8.out⟩
end Go.Proofs.Ytnncjljoddjcbaa
