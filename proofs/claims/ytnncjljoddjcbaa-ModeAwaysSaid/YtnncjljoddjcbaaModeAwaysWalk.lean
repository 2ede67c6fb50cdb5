/-
  ModeAways: the walk.
-/
import Derived.Test.YtnncjljoddjcbaaAn7
namespace Go.Proofs.Ytnncjljoddjcbaa
open Go.RowKit
set_option maxHeartbeats 2000000 in
theorem walk_modeAways (m : Int) (n o : Bool) (h : Int) (w : World) (_ : -9223372036854775808 ≤ m ∧ m ≤ 9223372036854775807) (_ : -9223372036854775808 ≤ h ∧ h ≤ 9223372036854775807) :
    Calls Try.prog 3 #[.int .i64 m, .bool n, .bool o, .int .i64 h] w fun e w' => e = .returned (.bool true) ∧ Below w.heap.size w w' := by
  have CG := Lib.hid (fun W => modeGood_c m W)
  by_cases h0 : m < 0
  · have h0' : ¬ 0 ≤ m := by omega
    rw [isWay_false (.inl h0)] at CG
    go_enter Try.func3, Try.ntmps3
    have B0 := Lib.hid (Below.refl w.heap.size w)
    go_wp2_with fail
    refine (answers7_c _).mono ?_
    rintro e w1 ⟨rfl, hb⟩
    have B1 := Lib.hid (B0.out.trans (hb.mono B0.out.size))
    clear hb
    go_wp2_with fail
    refine (CG.out _).mono ?_
    rintro e w1 ⟨rfl, rfl⟩
    go_wp2_with fail
    refine (modeAway_c _ _ _ _ _).mono ?_
    rintro e w2 ⟨rfl, hb⟩
    have B2 := Lib.hid (B1.out.trans (hb.mono B1.out.size))
    clear hb
    go_wp2_with fail
    refine (ref5Up_c _ _ _ _ _).mono ?_
    rintro e w1 ⟨rfl, rfl⟩
    go_wp2
    go_ret
    exact ⟨rfl, B2.out⟩
  by_cases h1 : 8 ≤ m
  · have h1' : decide (m ≤ 7) = false := by simp; omega
    rw [isWay_false (.inr h1)] at CG
    go_enter Try.func3, Try.ntmps3
    have B0 := Lib.hid (Below.refl w.heap.size w)
    go_wp2_with fail
    refine (answers7_c _).mono ?_
    rintro e w1 ⟨rfl, hb⟩
    have B1 := Lib.hid (B0.out.trans (hb.mono B0.out.size))
    clear hb
    go_wp2_with fail
    refine (CG.out _).mono ?_
    rintro e w1 ⟨rfl, rfl⟩
    go_wp2_with fail
    refine (modeAway_c _ _ _ _ _).mono ?_
    rintro e w2 ⟨rfl, hb⟩
    have B2 := Lib.hid (B1.out.trans (hb.mono B1.out.size))
    clear hb
    go_wp2_with fail
    refine (ref5Up_c _ _ _ _ _).mono ?_
    rintro e w1 ⟨rfl, rfl⟩
    go_wp2
    go_ret
    exact ⟨rfl, B2.out⟩
  have h0' : 0 ≤ m := by omega
  have h1' : decide (m ≤ 7) = true := by simp; omega
  rw [isWay_true (by omega) (by omega)] at CG
  go_enter Try.func3, Try.ntmps3
  have B0 := Lib.hid (Below.refl w.heap.size w)
  go_wp2_with fail
  refine (answers7_c _).mono ?_
  rintro e w1 ⟨rfl, hb⟩
  have B1 := Lib.hid (B0.out.trans (hb.mono B0.out.size))
  clear hb
  go_wp2_with fail
  refine (CG.out _).mono ?_
  rintro e w1 ⟨rfl, rfl⟩
  go_wp2_with fail
  refine (modeAway_c _ _ _ _ _).mono ?_
  rintro e w2 ⟨rfl, hb⟩
  have B2 := Lib.hid (B1.out.trans (hb.mono B1.out.size))
  clear hb
  go_wp2_with fail
  refine (ref5Up_c _ _ _ _ _).mono ?_
  rintro e w1 ⟨rfl, rfl⟩
  go_wp2
  go_ret
  exact ⟨rfl, B2.out⟩
end Go.Proofs.Ytnncjljoddjcbaa
