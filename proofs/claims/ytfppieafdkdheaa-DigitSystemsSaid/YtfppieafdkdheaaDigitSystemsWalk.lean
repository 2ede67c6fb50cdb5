/-
  DigitSystems: the walk.
-/
import Derived.Test.YtfppieafdkdheaaUI
set_option maxRecDepth 100000
namespace Go.Proofs.Ytfppieafdkdheaa
open Go.RowKit
set_option maxHeartbeats 2000000 in
theorem walk_digitSystems (z r : Int) (w : World) (hz : -2147483648 ≤ z ∧ z ≤ 2147483647) (hr : -2147483648 ≤ r ∧ r ≤ 2147483647) :
    Calls Try.prog 3 #[.int .i32 z, .int .i32 r] w fun e w' => e = .returned (.bool true) ∧ Below w.heap.size w w' := by
  have hC1 := fun W => digitGood_c z W hz
  have hC2 := fun W => digitIs_c z r W hz hr
  have hC3 := fun W => refZero_c z W hz
  by_cases h0 : z < 0
  · have e1 : sysZ z = false := by rw [sysZ]; exact decide_eq_false (by omega)
    have e2 : isB z r = false := by rw [isB, e1]; rfl
    rw [e1] at hC1 hC3
    rw [e2] at hC2
    clear e1 e2
    have C1 := Lib.hid hC1
    have C2 := Lib.hid hC2
    have C3 := Lib.hid hC3
    clear hC1 hC2 hC3
    go_enter Try.func3, Try.ntmps3
    go_wp2_with fail
    refine (answers12_c _).mono ?_
    rintro e w1 ⟨rfl, hb1⟩
    have B1 := Lib.hid hb1
    clear hb1
    go_wp2_with fail
    refine (C1.out _).mono ?_
    rintro e w2 ⟨rfl, rfl⟩
    go_wp2_with fail
    refine (C2.out _).mono ?_
    rintro e w3 ⟨rfl, rfl⟩
    go_wp2
    go_ret
    exact ⟨rfl, B1.out⟩
  rcases hs : sysZ z with _ | _
  · have e2 : isB z r = false := by rw [isB, hs]; rfl
    rw [hs] at hC1 hC3
    rw [e2] at hC2
    clear hs e2
    have C1 := Lib.hid hC1
    have C2 := Lib.hid hC2
    have C3 := Lib.hid hC3
    clear hC1 hC2 hC3
    go_enter Try.func3, Try.ntmps3
    go_wp2_with fail
    refine (C3.out _).mono ?_
    rintro e w1 ⟨rfl, rfl⟩
    go_wp2_with fail
    refine (answers12_c _).mono ?_
    rintro e w2 ⟨rfl, hb2⟩
    have B2 := Lib.hid hb2
    clear hb2
    go_wp2_with fail
    refine (C1.out _).mono ?_
    rintro e w3 ⟨rfl, rfl⟩
    go_wp2_with fail
    refine (C2.out _).mono ?_
    rintro e w4 ⟨rfl, rfl⟩
    go_wp2
    go_ret
    exact ⟨rfl, B2.out⟩
  have hz9 := sysZ_iff.1 hs
  by_cases h1 : z ≤ r
  · have hw : IntKind.i32.wrap (r - z) = r - z := IntWalk.i32_in _ (by omega)
    by_cases h2 : r < z + 10
    · have e2 : isB z r = true := by rw [isB, hs, decide_eq_true h1, decide_eq_true h2]; rfl
      have h3 : r - z < 10 := by omega
      rw [hs] at hC1 hC3
      rw [e2] at hC2
      clear hs e2 hz9
      have C1 := Lib.hid hC1
      have C2 := Lib.hid hC2
      have C3 := Lib.hid hC3
      clear hC1 hC2 hC3
      go_enter Try.func3, Try.ntmps3
      go_wp2_with fail
      refine (C3.out _).mono ?_
      rintro e w1 ⟨rfl, rfl⟩
      go_wp2_with fail
      refine (answers12_c _).mono ?_
      rintro e w2 ⟨rfl, hb2⟩
      have B2 := Lib.hid hb2
      clear hb2
      go_wp2_with fail
      refine (C1.out _).mono ?_
      rintro e w3 ⟨rfl, rfl⟩
      go_wp2_with fail
      refine (C2.out _).mono ?_
      rintro e w4 ⟨rfl, rfl⟩
      go_wp2
      go_ret
      exact ⟨rfl, B2.out⟩
    · have e2 : isB z r = false := by rw [isB, hs, decide_eq_false h2, Bool.and_false]; rfl
      have h3 : ¬ r - z < 10 := by omega
      rw [hs] at hC1 hC3
      rw [e2] at hC2
      clear hs e2 hz9
      have C1 := Lib.hid hC1
      have C2 := Lib.hid hC2
      have C3 := Lib.hid hC3
      clear hC1 hC2 hC3
      go_enter Try.func3, Try.ntmps3
      go_wp2_with fail
      refine (C3.out _).mono ?_
      rintro e w1 ⟨rfl, rfl⟩
      go_wp2_with fail
      refine (answers12_c _).mono ?_
      rintro e w2 ⟨rfl, hb2⟩
      have B2 := Lib.hid hb2
      clear hb2
      go_wp2_with fail
      refine (C1.out _).mono ?_
      rintro e w3 ⟨rfl, rfl⟩
      go_wp2_with fail
      refine (C2.out _).mono ?_
      rintro e w4 ⟨rfl, rfl⟩
      go_wp2
      go_ret
      exact ⟨ret_bool (by rw [decide_eq_false (by omega)]; rfl), B2.out⟩
  · have e2 : isB z r = false := by rw [isB, hs, decide_eq_false h1]; rfl
    rw [hs] at hC1 hC3
    rw [e2] at hC2
    clear hs e2 hz9
    have C1 := Lib.hid hC1
    have C2 := Lib.hid hC2
    have C3 := Lib.hid hC3
    clear hC1 hC2 hC3
    go_enter Try.func3, Try.ntmps3
    go_wp2_with fail
    refine (C3.out _).mono ?_
    rintro e w1 ⟨rfl, rfl⟩
    go_wp2_with fail
    refine (answers12_c _).mono ?_
    rintro e w2 ⟨rfl, hb2⟩
    have B2 := Lib.hid hb2
    clear hb2
    go_wp2_with fail
    refine (C1.out _).mono ?_
    rintro e w3 ⟨rfl, rfl⟩
    go_wp2_with fail
    refine (C2.out _).mono ?_
    rintro e w4 ⟨rfl, rfl⟩
    go_wp2
    go_ret
    exact ⟨rfl, B2.out⟩
end Go.Proofs.Ytfppieafdkdheaa
