/-
  UI: the document's Zero, Put, Digits; answers.
-/
import Derived.Test.YtljgpdghpkpffaaUH
set_option maxRecDepth 100000
namespace Go.Proofs.Ytljgpdghpkpffaa
open Go.RowKit
set_option maxHeartbeats 400000 in
theorem refZero_c (z : Int) (w : World) (h : -2147483648 ≤ z ∧ z ≤ 2147483647) : Calls Try.prog 20 #[.int .i32 z] w fun e w' => e = .returned (.bool (sysZ z)) ∧ w = w' := by
  by_cases hz : 1114102 < z
  · have HS := Lib.hid (show sysZ z = false by rw [sysZ]; exact decide_eq_false (by omega))
    go_enter Try.func20, Try.ntmps20
    go_wp2
    go_loopw [3] (fun i wr => i = .int .i32 0 ∧ wr = w) (fun _ _ => 0)
    case atStart => exact ⟨rfl, rfl⟩
    case round =>
      obtain ⟨rfl, rfl⟩ := hrel
      go_wp2
      go_ret
      rw [HS.out]
      exact ⟨rfl, rfl⟩
  go_enter Try.func20, Try.ntmps20
  go_wp2
  go_loopw [3] (fun i wr => ∃ k : Nat, k ≤ 10 ∧ i = .int .i32 (k : Int) ∧ wr = w ∧ ∀ j : Nat, j < k → isZ (z + (j : Int)) = true) (fun i _ => 10 - (intOf i).toNat)
  case atStart => exact ⟨0, by omega, rfl, rfl, fun j hj => absurd hj (by omega)⟩
  case round =>
    obtain ⟨k, hk, rfl, rfl, ha0⟩ := hrel
    by_cases hlt : k < 10
    · have hw : IntKind.i32.wrap (z + (k : Int)) = z + (k : Int) := IntWalk.i32_in _ (by omega)
      have hw2 : IntKind.i32.wrap ((k : Int) + 1) = ((k + 1 : Nat) : Int) := by rw [IntWalk.i32_in _ (by omega)]; rfl
      have HA := Lib.hid ha0
      clear ha0
      go_wp2_with fail
      refine (refScalar_c (z + (k : Int)) _).mono ?_
      rintro e w' ⟨rfl, rfl⟩
      rcases hzk : isZ (z + (k : Int)) with _ | _
      · have HN := Lib.hid (sysZ_no hlt hzk)
        clear hzk
        go_wp2
        go_ret
        rw [HN.out]
        exact ⟨rfl, rfl⟩
      · have HY := Lib.hid hzk
        clear hzk
        go_wp2
        go_roundw
        case rel =>
          refine ⟨k + 1, by omega, by go_num, trivial, fun j hj => ?_⟩
          rcases Nat.lt_or_ge j k with hjk | hjk
          · exact HA.out j hjk
          · obtain rfl : j = k := by omega
            exact HY.out
        case measure => simp [intOf]; omega
    · have HS := Lib.hid (sysZ_all (z := z) fun j hj => ha0 j (by omega))
      clear ha0
      obtain rfl : k = 10 := by omega
      go_wp2
      go_ret
      rw [HS.out]
      exact ⟨rfl, rfl⟩
theorem bts_at (s : ByteArray) (k : Nat) (h : k < s.size) : (bts s).take (k + 1) = (bts s).take k ++ [s[k].toNat] := by
  have h' : k < (bts s).length := by rw [bts_length]; exact h
  rw [List.take_succ_eq_append_getElem h']
  congr 2
  have := bts_get s k h
  rwa [List.getD, List.getElem?_eq_getElem h', Option.getD_some] at this
theorem okL_at {s : ByteArray} (h : okL (bts s) = true) (k : Nat) (hk : k < s.size) : 48 ≤ s[k].toNat ∧ s[k].toNat < 58 := by
  have h' : k < (bts s).length := by rw [bts_length]; exact hk
  have h1 := inS_iff.1 (List.all_eq_true.1 h _ (List.getElem_mem h'))
  have h2 := bts_get s k hk
  rw [List.getD, List.getElem?_eq_getElem h', Option.getD_some] at h2
  omega
theorem okL_bad {s : ByteArray} (k : Nat) (hk : k < s.size) (h : s[k].toNat < 48 ∨ 57 < s[k].toNat) : okL (bts s) = false := by
  rcases ho : okL (bts s) with _ | _
  · rfl
  · have := okL_at ho k hk
    omega
/-- Only digits, and some? -/
def digD (s : ByteArray) : Bool := decide (0 < s.size) && okL (bts s)
theorem digD_true {s : ByteArray} (h : digD s = true) : 0 < s.size ∧ okL (bts s) = true := by simpa [digD] using h
end Go.Proofs.Ytljgpdghpkpffaa
