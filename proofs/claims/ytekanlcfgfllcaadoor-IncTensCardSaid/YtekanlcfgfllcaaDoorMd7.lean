/-
  Md7: the contracts of layer 7: the eight ways, and the document's answer.
-/
import Derived.Laws.EntriesVeiled
import Derived.Test.YtekanlcfgfllcaaDoorKA
set_option maxRecDepth 100000
namespace Go.Proofs.YtekanlcfgfllcaaDoor
open Go.RowKit
/-- Is it one of the eight ways? -/
def isWay (m : Int) : Bool := decide (0 ≤ m) && decide (m < 8)
/-- Which neighbour a way takes. -/
def awayB (m : Int) (neg odd : Bool) (half : Int) : Bool :=
  if m = 0 then !neg else if m = 1 then neg else if m = 2 then true else if m = 4 then (decide (0 < half) || (decide (half = 0) && odd))
  else if m = 5 then decide (0 ≤ half) else if m = 6 then decide (0 < half) else false
theorem isWay_false {m : Int} (h : m < 0 ∨ 8 ≤ m) : isWay m = false := by unfold isWay; simp; omega
theorem isWay_true {m : Int} (h0 : 0 ≤ m) (h : m < 8) : isWay m = true := by unfold isWay; simp; omega
theorem awayB_no {m : Int} (n o : Bool) (h : Int) (hm : m < 0 ∨ 8 ≤ m) : awayB m n o h = false := by
  unfold awayB
  rw [if_neg (by omega), if_neg (by omega), if_neg (by omega), if_neg (by omega), if_neg (by omega), if_neg (by omega)]
theorem awayB_three (n o : Bool) (h : Int) : awayB 3 n o h = false := rfl
theorem awayB_seven (n o : Bool) (h : Int) : awayB 7 n o h = false := rfl
theorem ret_b {a b : Bool} (h : a = b) : Ending.returned (.bool a) = .returned (.bool b) := by rw [h]

theorem modeGood_c (m : Int) (w : World) : Calls Tryd.prog 19 #[.int .i64 m] w fun e w' => e = .returned (.bool (isWay m)) ∧ w = w' := by
  by_cases h0 : 0 ≤ m
  · by_cases h1 : m < 8
    · rw [isWay_true h0 h1]
      go_enter Tryd.func19, Tryd.ntmps19
      go_wp2
      go_ret
      exact ⟨rfl, rfl⟩
    · rw [isWay_false (by omega)]
      go_enter Tryd.func19, Tryd.ntmps19
      go_wp2
      go_ret
      exact ⟨rfl, rfl⟩
  · rw [isWay_false (by omega)]
    go_enter Tryd.func19, Tryd.ntmps19
    go_wp2
    go_ret
    exact ⟨rfl, rfl⟩


theorem ref5Up_c (m : Int) (n o : Bool) (h : Int) (w : World) : Calls Tryd.prog 38 #[.int .i64 m, .bool n, .bool o, .int .i64 h] w fun e w' => e = .returned (.bool (awayB m n o h)) ∧ w = w' := by
  by_cases h0 : m = 0
  · subst h0
    go_enter Tryd.func38, Tryd.ntmps38
    go_wp2
    go_ret
    exact ⟨rfl, rfl⟩
  by_cases h1 : m = 1
  · subst h1
    go_enter Tryd.func38, Tryd.ntmps38
    go_wp2
    go_ret
    exact ⟨rfl, rfl⟩
  by_cases h2 : m = 2
  · subst h2
    go_enter Tryd.func38, Tryd.ntmps38
    go_wp2
    go_ret
    exact ⟨rfl, rfl⟩
  by_cases h4 : m = 4
  · subst h4
    by_cases hp : 0 < h
    · have HR := Lib.hid (show true = awayB 4 n o h by unfold awayB; simp; omega)
      go_enter Tryd.func38, Tryd.ntmps38
      go_wp2
      go_ret
      exact ⟨ret_b HR.out, rfl⟩
    · by_cases hz : h = 0
      · subst hz
        have HR := Lib.hid (show o = awayB 4 n o 0 by unfold awayB; simp)
        go_enter Tryd.func38, Tryd.ntmps38
        go_wp2
        go_ret
        exact ⟨ret_b HR.out, rfl⟩
      · have HR := Lib.hid (show false = awayB 4 n o h by unfold awayB; simp; omega)
        have hz' : (h == 0) = false := by simpa using hz
        go_enter Tryd.func38, Tryd.ntmps38
        go_wp2
        go_ret
        exact ⟨ret_b HR.out, rfl⟩
  have e0 : (m == 0) = false := by simpa using h0
  have e1 : (m == 1) = false := by simpa using h1
  have e2 : (m == 2) = false := by simpa using h2
  have e4 : (m == 4) = false := by simpa using h4
  by_cases h5 : m = 5
  · subst h5
    have HR := Lib.hid (show decide (0 ≤ h) = awayB 5 n o h by rfl)
    go_enter Tryd.func38, Tryd.ntmps38
    go_wp2
    go_ret
    exact ⟨ret_b HR.out, rfl⟩
  by_cases h6 : m = 6
  · subst h6
    have HR := Lib.hid (show decide (0 < h) = awayB 6 n o h by rfl)
    go_enter Tryd.func38, Tryd.ntmps38
    go_wp2
    go_ret
    exact ⟨ret_b HR.out, rfl⟩
  have e5 : (m == 5) = false := by simpa using h5
  have e6 : (m == 6) = false := by simpa using h6
  have HR := Lib.hid (show false = awayB m n o h by unfold awayB; rw [if_neg h0, if_neg h1, if_neg h2, if_neg h4, if_neg h5, if_neg h6])
  clear h0 h1 h2 h4 h5 h6
  go_enter Tryd.func38, Tryd.ntmps38
  go_wp2
  go_ret
  exact ⟨ret_b HR.out, rfl⟩

theorem way1_c (n o : Bool) (h : Int) (w : World) : Calls Tryd.prog 74 #[.bool n, .bool o, .int .i64 h] w fun e w' => e = .returned (.bool (!n)) ∧ w = w' := by
  go_enter Tryd.func74, Tryd.ntmps74
  go_wp2
  go_ret
  exact ⟨rfl, rfl⟩

theorem way2_c (n o : Bool) (h : Int) (w : World) : Calls Tryd.prog 75 #[.bool n, .bool o, .int .i64 h] w fun e w' => e = .returned (.bool n) ∧ w = w' := by
  go_enter Tryd.func75, Tryd.ntmps75
  go_wp2
  go_ret
  exact ⟨rfl, rfl⟩

theorem way3_c (n o : Bool) (h : Int) (w : World) : Calls Tryd.prog 76 #[.bool n, .bool o, .int .i64 h] w fun e w' => e = .returned (.bool true) ∧ w = w' := by
  go_enter Tryd.func76, Tryd.ntmps76
  go_wp2
  go_ret
  exact ⟨rfl, rfl⟩

theorem way4_c (n o : Bool) (h : Int) (w : World) : Calls Tryd.prog 77 #[.bool n, .bool o, .int .i64 h] w fun e w' => e = .returned (.bool false) ∧ w = w' := by
  go_enter Tryd.func77, Tryd.ntmps77
  go_wp2
  go_ret
  exact ⟨rfl, rfl⟩

theorem way6_c (n o : Bool) (h : Int) (w : World) : Calls Tryd.prog 79 #[.bool n, .bool o, .int .i64 h] w fun e w' => e = .returned (.bool (decide (0 ≤ h))) ∧ w = w' := by
  go_enter Tryd.func79, Tryd.ntmps79
  go_wp2
  go_ret
  exact ⟨rfl, rfl⟩

theorem way7_c (n o : Bool) (h : Int) (w : World) : Calls Tryd.prog 80 #[.bool n, .bool o, .int .i64 h] w fun e w' => e = .returned (.bool (decide (0 < h))) ∧ w = w' := by
  go_enter Tryd.func80, Tryd.ntmps80
  go_wp2
  go_ret
  exact ⟨rfl, rfl⟩

theorem way8_c (n o : Bool) (h : Int) (w : World) : Calls Tryd.prog 81 #[.bool n, .bool o, .int .i64 h] w fun e w' => e = .returned (.bool false) ∧ w = w' := by
  go_enter Tryd.func81, Tryd.ntmps81
  go_wp2
  go_ret
  exact ⟨rfl, rfl⟩

theorem way5_c (n o : Bool) (h : Int) (w : World) : Calls Tryd.prog 78 #[.bool n, .bool o, .int .i64 h] w fun e w' => e = .returned (.bool (awayB 4 n o h)) ∧ w = w' := by
  by_cases hp : 0 < h
  · have HR := Lib.hid (show true = awayB 4 n o h by unfold awayB; simp; omega)
    go_enter Tryd.func78, Tryd.ntmps78
    go_wp2
    go_ret
    exact ⟨ret_b HR.out, rfl⟩
  · by_cases hz : h = 0
    · subst hz
      have HR := Lib.hid (show o = awayB 4 n o 0 by unfold awayB; simp)
      go_enter Tryd.func78, Tryd.ntmps78
      go_wp2
      go_ret
      exact ⟨ret_b HR.out, rfl⟩
    · have HR := Lib.hid (show false = awayB 4 n o h by unfold awayB; simp; omega)
      have hz' : (h == 0) = false := by simpa using hz
      go_enter Tryd.func78, Tryd.ntmps78
      go_wp2
      go_ret
      exact ⟨ret_b HR.out, rfl⟩

theorem ways_c (w : World) : Calls Tryd.prog 56 #[] w fun e w' => e = .returned (.agg #[.func (.func 74) #[] #[], .func (.func 75) #[] #[], .func (.func 76) #[] #[], .func (.func 77) #[] #[], .func (.func 78) #[] #[], .func (.func 79) #[] #[], .func (.func 80) #[] #[], .func (.func 81) #[] #[]]) ∧ Below w.heap.size w w' := by
  go_enter Tryd.func56, Tryd.ntmps56
  go_wp2
  exact bodyPost_ret (v := .agg #[.func (.func 74) #[] #[], .func (.func 75) #[] #[], .func (.func 76) #[] #[], .func (.func 77) #[] #[], .func (.func 78) #[] #[], .func (.func 79) #[] #[], .func (.func 80) #[] #[], .func (.func 81) #[] #[]]) (by simp [results, Tryd.results56, go_sem]) rfl ⟨rfl, (Below.refl _ _).alloc (Nat.le_refl _) _⟩

set_option maxHeartbeats 2000000 in
theorem modeAway_c (m : Int) (n o : Bool) (h : Int) (w : World) : Calls Tryd.prog 26 #[.int .i64 m, .bool n, .bool o, .int .i64 h] w fun e w' => e = .returned (.bool (awayB m n o h)) ∧ Below w.heap.size w w' := by
  have CG := Lib.hid (fun w => modeGood_c m w)
  by_cases hm : m < 0 ∨ 8 ≤ m
  · rw [isWay_false hm] at CG
    rw [awayB_no n o h hm]
    clear hm
    go_enter Tryd.func26, Tryd.ntmps26
    go_wp2_with fail
    refine (CG.out _).mono ?_
    rintro e w1 ⟨rfl, rfl⟩
    go_wp2
    go_ret
    exact ⟨rfl, Below.refl _ _⟩
  · rw [isWay_true (by omega) (by omega)] at CG
    have CW := Lib.hid (fun w => ways_c w)
    obtain rfl | rfl | rfl | rfl | rfl | rfl | rfl | rfl : m = 0 ∨ m = 1 ∨ m = 2 ∨ m = 3 ∨ m = 4 ∨ m = 5 ∨ m = 6 ∨ m = 7 := by omega
    all_goals clear hm
    · have i0 : ∀ w, (Instr.index 76 (.agg #[.func (.func 74) #[] #[], .func (.func 75) #[] #[], .func (.func 76) #[] #[], .func (.func 77) #[] #[], .func (.func 78) #[] #[], .func (.func 79) #[] #[], .func (.func 80) #[] #[], .func (.func 81) #[] #[]]) (.int .i64 0)).run Tryd.prog w = .ok (.agg #[.func (.func 74) #[] #[]]) w := fun _ => by kernel_rfl
      have f0 : ∀ w, (Instr.field 75 (.agg #[.func (.func 74) #[] #[]]) 0).run Tryd.prog w = .ok (.func (.func 74) #[] #[]) w := fun _ => by kernel_rfl
      go_enter Tryd.func26, Tryd.ntmps26
      go_wp2_with fail
      refine (CG.out _).mono ?_
      rintro e w1 ⟨rfl, rfl⟩
      go_wp2_with fail
      refine (CW.out _).mono ?_
      rintro e w1 ⟨rfl, hb⟩
      have HB := Lib.hid hb
      clear hb
      go_wp2_with fail
      refine (way1_c _ _ _ _).mono ?_
      rintro e w2 ⟨rfl, rfl⟩
      go_wp2
      go_ret
      exact ⟨rfl, HB.out⟩
    · have i0 : ∀ w, (Instr.index 76 (.agg #[.func (.func 74) #[] #[], .func (.func 75) #[] #[], .func (.func 76) #[] #[], .func (.func 77) #[] #[], .func (.func 78) #[] #[], .func (.func 79) #[] #[], .func (.func 80) #[] #[], .func (.func 81) #[] #[]]) (.int .i64 1)).run Tryd.prog w = .ok (.agg #[.func (.func 75) #[] #[]]) w := fun _ => by kernel_rfl
      have f0 : ∀ w, (Instr.field 75 (.agg #[.func (.func 75) #[] #[]]) 0).run Tryd.prog w = .ok (.func (.func 75) #[] #[]) w := fun _ => by kernel_rfl
      go_enter Tryd.func26, Tryd.ntmps26
      go_wp2_with fail
      refine (CG.out _).mono ?_
      rintro e w1 ⟨rfl, rfl⟩
      go_wp2_with fail
      refine (CW.out _).mono ?_
      rintro e w1 ⟨rfl, hb⟩
      have HB := Lib.hid hb
      clear hb
      go_wp2_with fail
      refine (way2_c _ _ _ _).mono ?_
      rintro e w2 ⟨rfl, rfl⟩
      go_wp2
      go_ret
      exact ⟨rfl, HB.out⟩
    · have i0 : ∀ w, (Instr.index 76 (.agg #[.func (.func 74) #[] #[], .func (.func 75) #[] #[], .func (.func 76) #[] #[], .func (.func 77) #[] #[], .func (.func 78) #[] #[], .func (.func 79) #[] #[], .func (.func 80) #[] #[], .func (.func 81) #[] #[]]) (.int .i64 2)).run Tryd.prog w = .ok (.agg #[.func (.func 76) #[] #[]]) w := fun _ => by kernel_rfl
      have f0 : ∀ w, (Instr.field 75 (.agg #[.func (.func 76) #[] #[]]) 0).run Tryd.prog w = .ok (.func (.func 76) #[] #[]) w := fun _ => by kernel_rfl
      go_enter Tryd.func26, Tryd.ntmps26
      go_wp2_with fail
      refine (CG.out _).mono ?_
      rintro e w1 ⟨rfl, rfl⟩
      go_wp2_with fail
      refine (CW.out _).mono ?_
      rintro e w1 ⟨rfl, hb⟩
      have HB := Lib.hid hb
      clear hb
      go_wp2_with fail
      refine (way3_c _ _ _ _).mono ?_
      rintro e w2 ⟨rfl, rfl⟩
      go_wp2
      go_ret
      exact ⟨rfl, HB.out⟩
    · have i0 : ∀ w, (Instr.index 76 (.agg #[.func (.func 74) #[] #[], .func (.func 75) #[] #[], .func (.func 76) #[] #[], .func (.func 77) #[] #[], .func (.func 78) #[] #[], .func (.func 79) #[] #[], .func (.func 80) #[] #[], .func (.func 81) #[] #[]]) (.int .i64 3)).run Tryd.prog w = .ok (.agg #[.func (.func 77) #[] #[]]) w := fun _ => by kernel_rfl
      have f0 : ∀ w, (Instr.field 75 (.agg #[.func (.func 77) #[] #[]]) 0).run Tryd.prog w = .ok (.func (.func 77) #[] #[]) w := fun _ => by kernel_rfl
      go_enter Tryd.func26, Tryd.ntmps26
      go_wp2_with fail
      refine (CG.out _).mono ?_
      rintro e w1 ⟨rfl, rfl⟩
      go_wp2_with fail
      refine (CW.out _).mono ?_
      rintro e w1 ⟨rfl, hb⟩
      have HB := Lib.hid hb
      clear hb
      go_wp2_with fail
      refine (way4_c _ _ _ _).mono ?_
      rintro e w2 ⟨rfl, rfl⟩
      go_wp2
      go_ret
      exact ⟨rfl, HB.out⟩
    · have i0 : ∀ w, (Instr.index 76 (.agg #[.func (.func 74) #[] #[], .func (.func 75) #[] #[], .func (.func 76) #[] #[], .func (.func 77) #[] #[], .func (.func 78) #[] #[], .func (.func 79) #[] #[], .func (.func 80) #[] #[], .func (.func 81) #[] #[]]) (.int .i64 4)).run Tryd.prog w = .ok (.agg #[.func (.func 78) #[] #[]]) w := fun _ => by kernel_rfl
      have f0 : ∀ w, (Instr.field 75 (.agg #[.func (.func 78) #[] #[]]) 0).run Tryd.prog w = .ok (.func (.func 78) #[] #[]) w := fun _ => by kernel_rfl
      go_enter Tryd.func26, Tryd.ntmps26
      go_wp2_with fail
      refine (CG.out _).mono ?_
      rintro e w1 ⟨rfl, rfl⟩
      go_wp2_with fail
      refine (CW.out _).mono ?_
      rintro e w1 ⟨rfl, hb⟩
      have HB := Lib.hid hb
      clear hb
      go_wp2_with fail
      refine (way5_c _ _ _ _).mono ?_
      rintro e w2 ⟨rfl, rfl⟩
      go_wp2
      go_ret
      exact ⟨rfl, HB.out⟩
    · have i0 : ∀ w, (Instr.index 76 (.agg #[.func (.func 74) #[] #[], .func (.func 75) #[] #[], .func (.func 76) #[] #[], .func (.func 77) #[] #[], .func (.func 78) #[] #[], .func (.func 79) #[] #[], .func (.func 80) #[] #[], .func (.func 81) #[] #[]]) (.int .i64 5)).run Tryd.prog w = .ok (.agg #[.func (.func 79) #[] #[]]) w := fun _ => by kernel_rfl
      have f0 : ∀ w, (Instr.field 75 (.agg #[.func (.func 79) #[] #[]]) 0).run Tryd.prog w = .ok (.func (.func 79) #[] #[]) w := fun _ => by kernel_rfl
      go_enter Tryd.func26, Tryd.ntmps26
      go_wp2_with fail
      refine (CG.out _).mono ?_
      rintro e w1 ⟨rfl, rfl⟩
      go_wp2_with fail
      refine (CW.out _).mono ?_
      rintro e w1 ⟨rfl, hb⟩
      have HB := Lib.hid hb
      clear hb
      go_wp2_with fail
      refine (way6_c _ _ _ _).mono ?_
      rintro e w2 ⟨rfl, rfl⟩
      go_wp2
      go_ret
      exact ⟨rfl, HB.out⟩
    · have i0 : ∀ w, (Instr.index 76 (.agg #[.func (.func 74) #[] #[], .func (.func 75) #[] #[], .func (.func 76) #[] #[], .func (.func 77) #[] #[], .func (.func 78) #[] #[], .func (.func 79) #[] #[], .func (.func 80) #[] #[], .func (.func 81) #[] #[]]) (.int .i64 6)).run Tryd.prog w = .ok (.agg #[.func (.func 80) #[] #[]]) w := fun _ => by kernel_rfl
      have f0 : ∀ w, (Instr.field 75 (.agg #[.func (.func 80) #[] #[]]) 0).run Tryd.prog w = .ok (.func (.func 80) #[] #[]) w := fun _ => by kernel_rfl
      go_enter Tryd.func26, Tryd.ntmps26
      go_wp2_with fail
      refine (CG.out _).mono ?_
      rintro e w1 ⟨rfl, rfl⟩
      go_wp2_with fail
      refine (CW.out _).mono ?_
      rintro e w1 ⟨rfl, hb⟩
      have HB := Lib.hid hb
      clear hb
      go_wp2_with fail
      refine (way7_c _ _ _ _).mono ?_
      rintro e w2 ⟨rfl, rfl⟩
      go_wp2
      go_ret
      exact ⟨rfl, HB.out⟩
    · have i0 : ∀ w, (Instr.index 76 (.agg #[.func (.func 74) #[] #[], .func (.func 75) #[] #[], .func (.func 76) #[] #[], .func (.func 77) #[] #[], .func (.func 78) #[] #[], .func (.func 79) #[] #[], .func (.func 80) #[] #[], .func (.func 81) #[] #[]]) (.int .i64 7)).run Tryd.prog w = .ok (.agg #[.func (.func 81) #[] #[]]) w := fun _ => by kernel_rfl
      have f0 : ∀ w, (Instr.field 75 (.agg #[.func (.func 81) #[] #[]]) 0).run Tryd.prog w = .ok (.func (.func 81) #[] #[]) w := fun _ => by kernel_rfl
      go_enter Tryd.func26, Tryd.ntmps26
      go_wp2_with fail
      refine (CG.out _).mono ?_
      rintro e w1 ⟨rfl, rfl⟩
      go_wp2_with fail
      refine (CW.out _).mono ?_
      rintro e w1 ⟨rfl, hb⟩
      have HB := Lib.hid hb
      clear hb
      go_wp2_with fail
      refine (way8_c _ _ _ _).mono ?_
      rintro e w2 ⟨rfl, rfl⟩
      go_wp2
      go_ret
      exact ⟨rfl, HB.out⟩
end Go.Proofs.YtekanlcfgfllcaaDoor
