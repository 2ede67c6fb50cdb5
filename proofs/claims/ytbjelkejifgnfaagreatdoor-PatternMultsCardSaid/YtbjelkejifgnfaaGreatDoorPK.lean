/-
  PK: padding.
-/
import Derived.Test.YtbjelkejifgnfaaGreatDoorPI
set_option maxRecDepth 100000
namespace Go.Proofs.YtbjelkejifgnfaaGreatDoor
open Go.RowKit
theorem hpl (es : List El) : es.length = (hpre es).length + ((hnum es).length + (hsuf es).length) := by
  conv => lhs; rw [half_parts es]
  rw [List.length_append, List.length_append]
set_option maxHeartbeats 2000000 in
theorem where16_c {D : Nat} (v : Value) (b : Int) (l : Bool) (es : List El) (i : Nat) (w : World) (h : HfM w D v b l es) (hn : es.length ≤ 1000) (hi : i < es.length) :
    Calls Tryz.prog 59 #[v, .int .i64 (i : Int)] w fun e w' => e = .returned (.int .i64 (whr (!l) (hpre es).length ((hpre es).length + (hnum es).length) es.length i)) ∧ Hid (Below w.heap.size w w') := by
  obtain ⟨A1, n1, c1, A2, n2, c2, A3, n3, c3, rfl, h1, h2, h3, -, -, -⟩ := h
  have e1 := h1.len
  have e2 := h2.len
  have e3 := h3.len
  have e4 := hpl es
  rw [e1, e2]
  rw [e1, e2, e3] at e4
  rw [e4] at hi hn ⊢
  clear h1 h2 h3 e1 e2 e3 e4
  generalize hW : whr (!l) n1 (n1 + n2) (n1 + (n2 + n3)) i = W
  unfold whr at hW
  have HB0 := Lib.hid (below_new w (.cells #[.int .i64 b, .bool l, .slice A1 n1 c1, .slice A2 n2 c2, .slice A3 n3 c3] 49))
  have gc : ∀ z : Int, -9223372036854775808 ≤ z → z ≤ 9223372036854775807 → IntKind.i64.wrap z = z := fun z _ _ => by rw [IntKind.wrap_i64]; omega
  have ga := gc ((n1 : Int) + (n2 : Int)) (by omega) (by omega)
  have gb := gc ((n1 : Int) + (n2 : Int) + (n3 : Int)) (by omega) (by omega)
  have gd := gc ((n1 : Int) - 1) (by omega) (by omega)
  have ge := gc ((n1 : Int) + (n2 : Int) + (n3 : Int) - 1) (by omega) (by omega)
  clear gc
  cases l
  · simp only [Bool.not_false, Bool.true_eq_false, if_false] at hW
    by_cases q0 : i = 0
    · rw [if_pos q0] at hW
      subst q0 hW
      go_enter Tryz.func59, Tryz.ntmps59
      go_wp2
      go_ret
      exact ⟨rfl, HB0⟩
    · have b0 : ((i : Int) == 0) = false := by rw [beq_eq_false_iff_ne]; omega
      rw [if_neg q0] at hW
      by_cases q1 : i + 1 = n1
      · rw [if_pos q1] at hW
        have b1 : ((i : Int) == (n1 : Int) - 1) = true := by rw [beq_iff_eq]; omega
        clear q0 q1
        subst hW
        go_enter Tryz.func59, Tryz.ntmps59
        go_wp2
        go_ret
        exact ⟨rfl, HB0⟩
      · rw [if_neg q1] at hW
        have b1 : ((i : Int) == (n1 : Int) - 1) = false := by rw [beq_eq_false_iff_ne]; omega
        by_cases q2 : i = n1 + n2
        · rw [if_pos q2] at hW
          have b2 : ((i : Int) == (n1 : Int) + (n2 : Int)) = true := by rw [beq_iff_eq]; omega
          clear q0 q1 q2
          subst hW
          go_enter Tryz.func59, Tryz.ntmps59
          go_wp2
          go_ret
          exact ⟨rfl, HB0⟩
        · rw [if_neg q2] at hW
          have b2 : ((i : Int) == (n1 : Int) + (n2 : Int)) = false := by rw [beq_eq_false_iff_ne]; omega
          by_cases q3 : i + 1 = n1 + (n2 + n3)
          · rw [if_pos q3] at hW
            have b3 : ((i : Int) == (n1 : Int) + (n2 : Int) + (n3 : Int) - 1) = true := by rw [beq_iff_eq]; omega
            clear q0 q1 q2 q3
            subst hW
            go_enter Tryz.func59, Tryz.ntmps59
            go_wp2
            go_ret
            exact ⟨rfl, HB0⟩
          · rw [if_neg q3] at hW
            have b3 : ((i : Int) == (n1 : Int) + (n2 : Int) + (n3 : Int) - 1) = false := by rw [beq_eq_false_iff_ne]; omega
            clear q0 q1 q2 q3
            subst hW
            go_enter Tryz.func59, Tryz.ntmps59
            go_wp2
            go_ret
            exact ⟨rfl, HB0⟩
  · obtain rfl : (0 : Int) = W := hW
    go_enter Tryz.func59, Tryz.ntmps59
    go_wp2
    go_ret
    exact ⟨rfl, HB0⟩
end Go.Proofs.YtbjelkejifgnfaaGreatDoor
