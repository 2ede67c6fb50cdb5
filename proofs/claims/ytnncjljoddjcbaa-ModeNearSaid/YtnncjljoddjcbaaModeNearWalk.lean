/-
  ModeNear: the walk.
-/
import Derived.Test.YtnncjljoddjcbaaAn7
namespace Go.Proofs.Ytnncjljoddjcbaa
open Go.RowKit
set_option maxHeartbeats 2000000 in
theorem walk_modeNear (m : Int) (n o : Bool) (h t : Int) (w : World) (_ : -9223372036854775808 ≤ m ∧ m ≤ 9223372036854775807) (_ : -9223372036854775808 ≤ h ∧ h ≤ 9223372036854775807) (_ : -9223372036854775808 ≤ t ∧ t ≤ 9223372036854775807) :
    Calls Try.prog 5 #[.int .i64 m, .bool n, .bool o, .int .i64 h, .int .i64 t] w fun e w' => e = .returned (.bool true) ∧ Below w.heap.size w w' := by
  by_cases h4 : m = 4
  · subst h4
    by_cases hz : h = 0
    · subst hz
      go_enter Try.func5, Try.ntmps5
      have B0 := Lib.hid (Below.refl w.heap.size w)
      go_wp2_with fail
      refine (modeAway_c _ _ _ _ _).mono ?_
      rintro e w1 ⟨rfl, hb⟩
      have B1 := Lib.hid (B0.out.trans (hb.mono B0.out.size))
      clear hb
      go_wp2_with fail
      refine (answers7_c _).mono ?_
      rintro e w2 ⟨rfl, hb⟩
      have B2 := Lib.hid (B1.out.trans (hb.mono B1.out.size))
      clear hb
      go_wp2
      go_ret
      exact ⟨rfl, B2.out⟩
    · have hz' : (h == 0) = false := by simpa using hz
      have E : awayB 4 n o h = decide (0 < h) := by unfold awayB; simp; try omega
      have CA := Lib.hid (fun W => modeAway_c 4 n o h W)
      rw [E] at CA
      clear E hz
      go_enter Try.func5, Try.ntmps5
      have B0 := Lib.hid (Below.refl w.heap.size w)
      go_wp2_with fail
      refine (CA.out _).mono ?_
      rintro e w1 ⟨rfl, hb⟩
      have B1 := Lib.hid (B0.out.trans (hb.mono B0.out.size))
      clear hb
      go_wp2_with fail
      refine (answers7_c _).mono ?_
      rintro e w2 ⟨rfl, hb⟩
      have B2 := Lib.hid (B1.out.trans (hb.mono B1.out.size))
      clear hb
      go_wp2
      go_ret
      exact ⟨rfl, B2.out⟩
  by_cases h5 : m = 5
  · subst h5
    by_cases hz : h = 0
    · subst hz
      go_enter Try.func5, Try.ntmps5
      have B0 := Lib.hid (Below.refl w.heap.size w)
      go_wp2_with fail
      refine (modeAway_c _ _ _ _ _).mono ?_
      rintro e w1 ⟨rfl, hb⟩
      have B1 := Lib.hid (B0.out.trans (hb.mono B0.out.size))
      clear hb
      go_wp2_with fail
      refine (answers7_c _).mono ?_
      rintro e w2 ⟨rfl, hb⟩
      have B2 := Lib.hid (B1.out.trans (hb.mono B1.out.size))
      clear hb
      go_wp2
      go_ret
      exact ⟨rfl, B2.out⟩
    · have hz' : (h == 0) = false := by simpa using hz
      have E : awayB 5 n o h = decide (0 < h) := by unfold awayB; simp; try omega
      have CA := Lib.hid (fun W => modeAway_c 5 n o h W)
      rw [E] at CA
      clear E hz
      go_enter Try.func5, Try.ntmps5
      have B0 := Lib.hid (Below.refl w.heap.size w)
      go_wp2_with fail
      refine (CA.out _).mono ?_
      rintro e w1 ⟨rfl, hb⟩
      have B1 := Lib.hid (B0.out.trans (hb.mono B0.out.size))
      clear hb
      go_wp2_with fail
      refine (answers7_c _).mono ?_
      rintro e w2 ⟨rfl, hb⟩
      have B2 := Lib.hid (B1.out.trans (hb.mono B1.out.size))
      clear hb
      go_wp2
      go_ret
      exact ⟨rfl, B2.out⟩
  by_cases h6 : m = 6
  · subst h6
    by_cases hz : h = 0
    · subst hz
      go_enter Try.func5, Try.ntmps5
      have B0 := Lib.hid (Below.refl w.heap.size w)
      go_wp2_with fail
      refine (modeAway_c _ _ _ _ _).mono ?_
      rintro e w1 ⟨rfl, hb⟩
      have B1 := Lib.hid (B0.out.trans (hb.mono B0.out.size))
      clear hb
      go_wp2_with fail
      refine (answers7_c _).mono ?_
      rintro e w2 ⟨rfl, hb⟩
      have B2 := Lib.hid (B1.out.trans (hb.mono B1.out.size))
      clear hb
      go_wp2
      go_ret
      exact ⟨rfl, B2.out⟩
    · have hz' : (h == 0) = false := by simpa using hz
      have E : awayB 6 n o h = decide (0 < h) := by unfold awayB; simp; try omega
      have CA := Lib.hid (fun W => modeAway_c 6 n o h W)
      rw [E] at CA
      clear E hz
      go_enter Try.func5, Try.ntmps5
      have B0 := Lib.hid (Below.refl w.heap.size w)
      go_wp2_with fail
      refine (CA.out _).mono ?_
      rintro e w1 ⟨rfl, hb⟩
      have B1 := Lib.hid (B0.out.trans (hb.mono B0.out.size))
      clear hb
      go_wp2_with fail
      refine (answers7_c _).mono ?_
      rintro e w2 ⟨rfl, hb⟩
      have B2 := Lib.hid (B1.out.trans (hb.mono B1.out.size))
      clear hb
      go_wp2
      go_ret
      exact ⟨rfl, B2.out⟩
  have e4 : (m == 4) = false := by simpa using h4
  have e5 : (m == 5) = false := by simpa using h5
  have e6 : (m == 6) = false := by simpa using h6
  have E : awayB m n (!o) t = awayB m n o h := by unfold awayB; simp only [if_neg h4, if_neg h5, if_neg h6]
  have CB := Lib.hid (fun W => modeAway_c m n (!o) t W)
  rw [E] at CB
  clear E h4 h5 h6
  go_enter Try.func5, Try.ntmps5
  have B0 := Lib.hid (Below.refl w.heap.size w)
  go_wp2_with fail
  refine (modeAway_c _ _ _ _ _).mono ?_
  rintro e w1 ⟨rfl, hb⟩
  have B1 := Lib.hid (B0.out.trans (hb.mono B0.out.size))
  clear hb
  go_wp2_with fail
  refine (answers7_c _).mono ?_
  rintro e w2 ⟨rfl, hb⟩
  have B2 := Lib.hid (B1.out.trans (hb.mono B1.out.size))
  clear hb
  go_wp2_with fail
  refine (CB.out _).mono ?_
  rintro e w3 ⟨rfl, hb⟩
  have B3 := Lib.hid (B2.out.trans (hb.mono B2.out.size))
  clear hb
  go_wp2
  go_ret
  exact ⟨rfl, B3.out⟩
end Go.Proofs.Ytnncjljoddjcbaa
