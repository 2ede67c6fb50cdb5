/-
  GroupJoins: the walk.
-/
import Derived.Test.YtiflkkmeloclfaaMV
import Derived.Test.YtiflkkmeloclfaaGC
set_option maxRecDepth 100000
namespace Go.Proofs.Ytiflkkmeloclfaa
open Go.RowKit
theorem size_0 {t : ByteArray} (h : t.size = 0) : t = ⟨#[]⟩ := bts_inj (List.eq_nil_of_length_eq_zero (by rw [bts_length]; exact h))
theorem joinS_one {ts : List ByteArray} {t : ByteArray} (h : 0 < ts.length) : stz (joinB (ts.take 0) t) ++ ts[0] = stz (joinB (ts.take 1) t) := by
  rw [joinB_take_zero, joinB_take_one h, stz_bts]
  apply bts_inj
  rw [bts_append]; rfl
theorem joinS_more {ts : List ByteArray} {t : ByteArray} {k : Nat} (hk : 0 < k) (h : k < ts.length) : stz (joinB (ts.take k) t) ++ t ++ ts[k] = stz (joinB (ts.take (k + 1)) t) := by
  rw [joinB_take hk h, stz_append, stz_append, stz_bts, stz_bts]
set_option maxHeartbeats 2000000 in
theorem walk_groupJoins (A : Option Addr) (n c : Nat) (ts : List ByteArray) (t : ByteArray) (w : World) (h : Tls w A n ts) (ht : t.size ≤ maxLen) :
    Calls Try.prog 5 #[.slice A n c, .string t] w fun e w' => e = .returned (.bool true) ∧ Below w.heap.size w w' := by
  have hn9 := h.2
  unfold maxLen at ht
  have HT := Lib.hid h
  have HN := Lib.hid h.len
  clear h
  by_cases hn : 50 < n
  · have g0 : decide ((50 : Int) < (n : Int)) = true := decide_eq_true (by omega)
    go_enter Try.func5, Try.ntmps5
    go_wp2_with (first | (go_at_call 7; refine (answers20_c _).mono ?_; rintro e9 w9 ⟨rfl, hb9⟩) | fail)
    go_ret
    exact ⟨rfl, hb9⟩
  have g0 : decide ((50 : Int) < (n : Int)) = false := decide_eq_false (by omega)
  by_cases hs : 100 < t.size
  · have g1 : decide ((100 : Int) < (t.size : Int)) = true := decide_eq_true (by omega)
    go_enter Try.func5, Try.ntmps5
    go_wp2_with (first | (go_at_call 7; refine (answers20_c _).mono ?_; rintro e9 w9 ⟨rfl, hb9⟩) | fail)
    go_ret
    exact ⟨rfl, hb9⟩
  have g1 : decide ((100 : Int) < (t.size : Int)) = false := decide_eq_false (by omega)
  go_enter Try.func5, Try.ntmps5
  go_wp2
  go_loopw [5, 6] (fun xv iv wr => ∃ (k : Nat), k ≤ n ∧ iv = .int .i64 (k : Int) ∧ xv = .string (stz (joinB (ts.take k) t)) ∧ (∀ j (hj : j < ts.length), j < k → ts[j].size ≤ 100) ∧ wr = w) (fun _ iv _ => n - (intOf iv).toNat)
  case atStart => exact ⟨0, Nat.zero_le _, rfl, rfl, fun j hj h => absurd h (by omega), rfl⟩
  case round =>
    obtain ⟨k, hk, rfl, rfl, hall, rfl⟩ := hrel
    have HA := Lib.hid hall
    have hxz : (stz (joinB (ts.take k) t)).size ≤ 10000 := by
      rw [stz_size]
      refine Nat.le_trans (joinB_len (n := 100) fun x hx => ?_) ?_
      · obtain ⟨i, hi, e⟩ := List.mem_iff_getElem.1 hx
        rw [← e, List.getElem_take]
        rw [List.length_take] at hi
        exact hall i (by omega) (by omega)
      · rw [List.length_take, HN.out]
        have : min k n * (100 + t.size) ≤ 50 * 200 := Nat.mul_le_mul (by omega) (by omega)
        omega
    clear hall
    by_cases hlt : k < n
    · have gi : decide ((k : Int) < (n : Int)) = true := decide_eq_true (by omega)
      have hkl : k < ts.length := by rw [HN.out]; exact hlt
      obtain ⟨ad, rfl, x1⟩ := HT.out.at_ hlt hkl
      by_cases hx : 100 < ts[k].size
      · have gx : decide ((100 : Int) < (ts[k].size : Int)) = true := decide_eq_true (by omega)
        generalize ts[k] = x at *
        clear hxz
        go_wp2_with (first | (go_at_call 7; refine (answers20_c _).mono ?_; rintro e9 w9 ⟨rfl, hb9⟩) | fail)
        go_ret
        exact ⟨rfl, hb9⟩
      · have gx : decide ((100 : Int) < (ts[k].size : Int)) = false := decide_eq_false (by omega)
        have HA2 : Hid (∀ j (hj : j < ts.length), j < k + 1 → ts[j].size ≤ 100) := Lib.hid fun j hj h' => by
          rcases Nat.lt_or_ge j k with h1 | h1
          · exact HA.out j hj h1
          · obtain rfl : j = k := by omega
            omega
        rcases Nat.eq_zero_or_pos k with rfl | hk0
        · have gz : decide ((0 : Int) < ((0 : Nat) : Int)) = false := rfl
          have x0 : wr.cell? ad = some (.string ts[0]) := x1
          clear x1
          have HJ := Lib.hid (joinS_one (t := t) hkl)
          generalize ts[0] = x at *
          generalize stz (joinB (ts.take 0) t) = y at *
          have q1 : ¬ 9223372036854775807 < y.size + x.size := by omega
          go_wp2
          go_roundw
          case rel => exact ⟨1, by omega, by go_num, by rw [HJ.out], HA2.out, by trivial⟩
          case measure => simp [intOf]; omega
        · have gz : decide ((0 : Int) < (k : Int)) = true := decide_eq_true (by omega)
          have HJ := Lib.hid (joinS_more (t := t) hk0 hkl)
          generalize ts[k] = x at *
          generalize stz (joinB (ts.take k) t) = y at *
          have q1 : ¬ 9223372036854775807 < y.size + t.size := by omega
          have q2 : (y ++ t).size ≤ 10100 := by rw [ByteArray.size_append]; omega
          have q3 : ¬ 9223372036854775807 < (y ++ t).size + x.size := by omega
          go_wp2
          go_roundw
          case rel => exact ⟨k + 1, by omega, by go_num, by rw [HJ.out], HA2.out, by trivial⟩
          case measure => simp [intOf]; omega
    · obtain rfl : k = n := by omega
      have gi : decide ((k : Int) < (k : Int)) = false := decide_eq_false (by omega)
      have HE : Hid (ts.take k = ts) := Lib.hid (List.take_of_length_le (by rw [HN.out]; exact Nat.le_refl _))
      have hm : k * (100 + t.size) ≤ 900000 := by
        have : k * (100 + t.size) ≤ 50 * 200 := Nat.mul_le_mul (by omega) (by omega)
        omega
      have CJ := Lib.hid (fun (W : World) (h : Tls W A k ts) => join_c A k c 100 ts t W h (by omega) (fun x hx => by
        obtain ⟨i, hi, e⟩ := List.mem_iff_getElem.1 hx
        rw [← e]
        exact HA.out i hi (by rw [← HN.out]; exact hi)) (by omega) hm)
      rw [HE.out]
      generalize stz (joinB ts t) = y at *
      have gy : (y.toList == y.toList) = true := beq_self_eq_true _
      clear HE hm hxz HA
      go_wp2_with (first
        | (go_at_call 7; refine (answers20_c _).mono ?_; rintro e9 w9 ⟨rfl, hb9⟩)
        | (go_at_call 10; refine (CJ.out _ (HT.out.below hb9)).mono ?_; rintro e8 w8 ⟨rfl, hb8⟩)
        | fail)
      go_ret
      exact ⟨rfl, hb9.trans (hb8.out.mono hb9.size)⟩
end Go.Proofs.Ytiflkkmeloclfaa
