/-
  ModeTurned: the walk.
-/
import Derived.Test.YtnncjljoddjcbaaAn7
namespace Go.Proofs.Ytnncjljoddjcbaa
open Go.RowKit
set_option maxHeartbeats 2000000 in
theorem walk_modeTurned (m : Int) (n o : Bool) (h : Int) (w : World) (_ : -9223372036854775808 ≤ m ∧ m ≤ 9223372036854775807) (_ : -9223372036854775808 ≤ h ∧ h ≤ 9223372036854775807) :
    Calls Try.prog 4 #[.int .i64 m, .bool n, .bool o, .int .i64 h] w fun e w' => e = .returned (.bool true) ∧ Below w.heap.size w w' := by
  by_cases h0 : m = 0
  · subst h0
    have E : awayB 1 (!n) o h = awayB 0 n o h := by cases n <;> rfl
    have CB := Lib.hid (fun W => modeAway_c 1 (!n) o h W)
    rw [E] at CB
    clear E
    go_enter Try.func4, Try.ntmps4
    have B0 := Lib.hid (Below.refl w.heap.size w)
    go_wp2_with fail
    refine (answers7_c _).mono ?_
    rintro e w1 ⟨rfl, hb⟩
    have B1 := Lib.hid (B0.out.trans (hb.mono B0.out.size))
    clear hb
    go_wp2_with fail
    refine (modeAway_c _ _ _ _ _).mono ?_
    rintro e w2 ⟨rfl, hb⟩
    have B2 := Lib.hid (B1.out.trans (hb.mono B1.out.size))
    clear hb
    go_wp2_with fail
    refine (CB.out _).mono ?_
    rintro e w3 ⟨rfl, hb⟩
    have B3 := Lib.hid (B2.out.trans (hb.mono B2.out.size))
    clear hb
    go_wp2
    go_ret
    exact ⟨rfl, B3.out⟩
  by_cases h1 : m = 1
  · subst h1
    have E : awayB 0 (!n) o h = awayB 1 n o h := by cases n <;> rfl
    have CB := Lib.hid (fun W => modeAway_c 0 (!n) o h W)
    rw [E] at CB
    clear E
    go_enter Try.func4, Try.ntmps4
    have B0 := Lib.hid (Below.refl w.heap.size w)
    go_wp2_with fail
    refine (answers7_c _).mono ?_
    rintro e w1 ⟨rfl, hb⟩
    have B1 := Lib.hid (B0.out.trans (hb.mono B0.out.size))
    clear hb
    go_wp2_with fail
    refine (modeAway_c _ _ _ _ _).mono ?_
    rintro e w2 ⟨rfl, hb⟩
    have B2 := Lib.hid (B1.out.trans (hb.mono B1.out.size))
    clear hb
    go_wp2_with fail
    refine (CB.out _).mono ?_
    rintro e w3 ⟨rfl, hb⟩
    have B3 := Lib.hid (B2.out.trans (hb.mono B2.out.size))
    clear hb
    go_wp2
    go_ret
    exact ⟨rfl, B3.out⟩
  have E : awayB m (!n) o h = awayB m n o h := by unfold awayB; rw [if_neg h0, if_neg h1, if_neg h0, if_neg h1]
  have CB := Lib.hid (fun W => modeAway_c m (!n) o h W)
  rw [E] at CB
  have e0 : (m == 0) = false := by simpa using h0
  have e1 : (m == 1) = false := by simpa using h1
  clear E h0 h1
  go_enter Try.func4, Try.ntmps4
  have B0 := Lib.hid (Below.refl w.heap.size w)
  go_wp2_with fail
  refine (answers7_c _).mono ?_
  rintro e w1 ⟨rfl, hb⟩
  have B1 := Lib.hid (B0.out.trans (hb.mono B0.out.size))
  clear hb
  go_wp2_with fail
  refine (modeAway_c _ _ _ _ _).mono ?_
  rintro e w2 ⟨rfl, hb⟩
  have B2 := Lib.hid (B1.out.trans (hb.mono B1.out.size))
  clear hb
  go_wp2_with fail
  refine (CB.out _).mono ?_
  rintro e w3 ⟨rfl, hb⟩
  have B3 := Lib.hid (B2.out.trans (hb.mono B2.out.size))
  clear hb
  go_wp2
  go_ret
  exact ⟨rfl, B3.out⟩
end Go.Proofs.Ytnncjljoddjcbaa
