/-
  Dec4: dec.Good; of the answers by definition: Digits, Good, Norm, Zero, Top, At, Cmp, Ranged.
-/
import Derived.Test.YtijalgngcbifgaaDoorDec3
namespace Go.Proofs.YtijalgngcbifgaaDoor
open Go.RowKit
/-- Are the first k bytes digits? -/
def okD (s : ByteArray) (k : Nat) : Bool := (s.data.toList.take k).all digB
theorem okD_succ (s : ByteArray) (k : Nat) (h : k < s.size) : okD s (k + 1) = (okD s k && digB s[k]) := by
  have h' : k < s.data.toList.length := by simpa using h
  unfold okD
  rw [List.take_succ_eq_append_getElem h', List.all_append]
  simp
  rfl
theorem okD_full (s : ByteArray) : okD s s.size = s.data.toList.all digB := by
  unfold okD
  rw [List.take_of_length_le (by simp)]
theorem okD_no {s : ByteArray} {k : Nat} (hk : k < s.size) (h : digB s[k] = false) : s.data.toList.all digB = false := by
  rw [List.all_eq_false]
  refine ⟨s.data.toList[k]'(by simpa using hk), List.getElem_mem _, ?_⟩
  rw [Bool.not_eq_true]
  exact h
/-- Only digits, and some? -/
def allD (s : ByteArray) : Bool := decide (0 < s.size) && s.data.toList.all digB
theorem allD_true {s : ByteArray} (h : allD s = true) : 0 < s.size ∧ ∀ j (h : j < s.size), digB s[j] = true := by
  simp only [allD, Bool.and_eq_true, decide_eq_true_eq] at h
  exact ⟨h.1, fun j hj => List.all_eq_true.1 h.2 _ (List.getElem_mem (l := s.data.toList) (by simpa using hj))⟩
theorem allD_false {s : ByteArray} (h : allD s = false) : s.size = 0 ∨ ∃ j, ∃ h : j < s.size, digB s[j] = false := by
  simp only [allD, Bool.and_eq_false_iff, decide_eq_false_iff_not] at h
  rcases h with h | h
  · left; omega
  · right
    obtain ⟨b, hb, hf⟩ := List.all_eq_false.1 h
    obtain ⟨j, hj, rfl⟩ := List.mem_iff_getElem.1 hb
    exact ⟨j, by simpa using hj, by simp only [Bool.not_eq_true] at hf; exact hf⟩
theorem isD_of_all {s : ByteArray} (h : ∀ j (h : j < s.size), digB s[j] = true) : IsD s (bdigs s) := by
  refine ⟨?_, bdigs_lt h⟩
  apply List.ext_getElem
  · simp [bdigs]
  · intro j h1 h2
    have hj : j < s.size := by simpa using h1
    have := digB_true (h j hj)
    simp only [bdigs, List.getElem_map]
    change (s[j]).toNat = 48 + ((s[j]).toNat - 48)
    omega
/-- May it be handed in? -/
def goodB (s : ByteArray) (e : Int) : Bool := allD s && (decide (s.size ≤ 1000) && (decide (-1000 ≤ e) && decide (e ≤ 1000)))
theorem DA.of_good {s : ByteArray} {e : Int} (h : goodB s e = true) : DA 1000 s e (dval (bdigs s)) := by
  simp only [goodB, Bool.and_eq_true, decide_eq_true_eq] at h
  obtain ⟨h1, h2, h3, h4⟩ := h
  obtain ⟨h5, h6⟩ := allD_true h1
  exact ⟨⟨_, isD_of_all h6, rfl⟩, h5, by omega, by omega, by omega⟩
theorem good_big {s : ByteArray} {e : Int} (h : ¬ s.size ≤ 1000) : goodB s e = false := by simp [goodB, h]
theorem good_lo {s : ByteArray} {e : Int} (h : e < -1000) : goodB s e = false := by
  have : ¬ -1000 ≤ e := by omega
  simp [goodB, this]
theorem good_hi {s : ByteArray} {e : Int} (h : 1000 < e) : goodB s e = false := by
  have : ¬ e ≤ 1000 := by omega
  simp [goodB, this]
theorem good_in {s : ByteArray} {e : Int} (h1 : s.size ≤ 1000) (h2 : -1000 ≤ e) (h3 : e ≤ 1000) : goodB s e = allD s := by simp [goodB, h1, h2, h3]
set_option maxHeartbeats 800000 in
set_option maxRecDepth 100000 in
theorem decGood_c (n : Bool) (s : ByteArray) (e : Int) (w : World) (hs : s.size ≤ maxLen) (hP : Pw w) :
    Calls Tryd.prog 12 #[.agg #[.bool n, .string s, .int .i64 e]] w fun r w' => r = .returned (.bool (goodB s e)) ∧ Below w.heap.size w w' := by
  have HK := Lib.hid (kept_one w (.bool n) (.string s) (.int .i64 e) 23 hP)
  unfold maxLen at hs
  clear hP
  by_cases h1 : s.size ≤ 1000
  · have h1i : ¬ (1000 : Int) < (s.size : Int) := by omega
    by_cases h2 : e < -1000
    · rw [good_lo h2]
      go_enter Tryd.func12, Tryd.ntmps12
      go_wp2
      go_ret
      exact ⟨rfl, HK.out.2.1⟩
    · by_cases h3 : 1000 < e
      · rw [good_hi h3]
        go_enter Tryd.func12, Tryd.ntmps12
        go_wp2
        go_ret
        exact ⟨rfl, HK.out.2.1⟩
      · rw [good_in h1 (by omega) (by omega)]
        have CN := tenNumber_c s _ (by omega) HK.out.1
        rcases hA : allD s with _ | _
        · have hc : Calls Tryd.prog 28 #[.string s] (w.alloc (.cells #[.bool n, .string s, .int .i64 e] 23)) fun r w' => r = .returned (.tuple #[.slice none 0 0, .bool false]) ∧ Below (w.alloc (.cells #[.bool n, .string s, .int .i64 e] 23)).heap.size (w.alloc (.cells #[.bool n, .string s, .int .i64 e] 23)) w' := by
            refine CN.mono ?_
            rintro r w' ⟨hb, ⟨h4, h5, -⟩ | ⟨-, rfl⟩⟩
            · exfalso
              rcases allD_false hA with h6 | ⟨j, hj, hf⟩
              · omega
              · rw [h5 j hj] at hf; cases hf
            · exact ⟨rfl, hb⟩
          have HC := Lib.hid hc
          clear CN hA hc
          go_enter Tryd.func12, Tryd.ntmps12
          go_wp2_with fail
          refine HC.out.mono ?_
          rintro r w1 ⟨rfl, hb⟩
          replace HK := Lib.hid (HK.out.keep hb)
          clear hb HC
          go_wp2
          go_ret
          exact ⟨rfl, HK.out.2.1⟩
        · obtain ⟨h5, h6⟩ := allD_true hA
          have HC := Lib.hid (tenNumber_ok s _ _ (isD_of_all h6) (by omega) h5 HK.out.1)
          clear CN hA h6
          go_enter Tryd.func12, Tryd.ntmps12
          go_wp2_with fail
          refine HC.out.mono ?_
          rintro r w1 ⟨A, m, c, rfl, -, hb⟩
          replace HK := Lib.hid (HK.out.keep hb)
          clear hb HC
          go_wp2
          go_ret
          exact ⟨rfl, HK.out.2.1⟩
  · rw [good_big h1]
    have h1i : (1000 : Int) < (s.size : Int) := by omega
    clear h1
    go_enter Tryd.func12, Tryd.ntmps12
    go_wp2
    go_ret
    exact ⟨rfl, HK.out.2.1⟩
set_option maxHeartbeats 800000 in
set_option maxRecDepth 100000 in
theorem refDigits_c (s : ByteArray) (w : World) (hs : s.size ≤ maxLen) :
    Calls Tryd.prog 27 #[.string s] w fun r w' => r = .returned (.bool (allD s)) ∧ w = w' := by
  unfold maxLen at hs
  have hend : okD s s.size = true → (!s.toList.isEmpty) = allD s := by
    intro h
    rw [okD_full] at h
    rw [allD, h, Bool.and_true, ByteArray.toList_eq]
    rcases hl : s.data.toList with _ | ⟨x, l⟩
    · have : s.size = 0 := by have h3 : s.size = s.data.toList.length := rfl; rw [h3, hl]; rfl
      simp [this]
    · have : s.size = l.length + 1 := by have h3 : s.size = s.data.toList.length := rfl; rw [h3, hl]; rfl
      simp [this]
  have HE := Lib.hid hend
  clear hend
  go_enter Tryd.func27, Tryd.ntmps27
  go_wp2
  go_loop [3] (fun i => ∃ k : Nat, k ≤ s.size ∧ i = .int .i64 (k : Int) ∧ okD s k = true) (fun i => s.size - (intOf i).toNat)
  case atStart => exact ⟨0, Nat.zero_le _, rfl, rfl⟩
  case round =>
    obtain ⟨k, hk, rfl, hok⟩ := hrel
    have HOK := Lib.hid hok
    clear hok
    by_cases hlt : k < s.size
    · have hsucc := Lib.hid (okD_succ s k hlt)
      rcases hdb : digB s[k] with _ | _
      · have HN := Lib.hid (okD_no hlt hdb)
        rcases digB_false hdb with h1 | h1
        · have h2 : ((s[k].toNat : Nat) : Int) < 48 := by omega
          clear hdb
          go_wp2
          go_ret
          exact ⟨ret_bool (by rw [allD, HN.out, Bool.and_false]), rfl⟩
        · have h2 : ¬ ((s[k].toNat : Nat) : Int) < 48 := by omega
          have h3 : (57 : Int) < ((s[k].toNat : Nat) : Int) := by omega
          clear hdb
          go_wp2
          go_ret
          exact ⟨ret_bool (by rw [allD, HN.out, Bool.and_false]), rfl⟩
      · have HDB := Lib.hid hdb
        have h1 := digB_true hdb
        have h2 : ¬ ((s[k].toNat : Nat) : Int) < 48 := by omega
        have h3 : ¬ (57 : Int) < ((s[k].toNat : Nat) : Int) := by omega
        clear hdb
        go_wp2
        go_round
        case rel => exact ⟨k + 1, by omega, by go_num, by rw [hsucc.out, HOK.out, HDB.out]; rfl⟩
        case measure => simp [intOf]; omega
    · obtain rfl : k = s.size := by omega
      have HE2 := Lib.hid (HE.out HOK.out)
      go_wp2
      go_ret
      exact ⟨ret_bool HE2.out, rfl⟩
end Go.Proofs.YtijalgngcbifgaaDoor
