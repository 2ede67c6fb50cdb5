import Derived.Test.YtmfcjjjkndfojaaNat4
import Derived.Test.YtmfcjjjkndfojaaDig
namespace Go.Proofs.Ytmfcjjjkndfojaa
open Go.RowKit
set_option maxHeartbeats 400000 in
theorem strip_big (s : ByteArray) (ds : List Nat) (w : World) (h : IsD s ds) (hs : s.size ≤ 1000000000000000) :
    Calls Try.prog 24 #[.string s] w fun e w' => ∃ s', e = .returned (.string s') ∧ IsD s' (decs (dval ds)) ∧ w = w' := by
  have hl := Lib.hid h.size
  have H := Lib.hid h
  clear h
  go_enter Try.func24, Try.ntmps24
  go_wp2
  go_loop [3] (fun i => ∃ k : Nat, k ≤ s.size ∧ i = .int .i64 k ∧ ∀ j, j < k → ds.getD j 0 = 0) (fun i => s.size - (intOf i).toNat)
  case atStart => exact ⟨0, Nat.zero_le _, rfl, fun j hj => absurd hj (by omega)⟩
  case round =>
    obtain ⟨k, hk, rfl, hall0⟩ := hrel
    have hall := Lib.hid hall0
    clear hall0
    by_cases hlt : k < s.size
    · have hb := H.out.at_ hlt
      have HB := Lib.hid hb
      clear hb
      go_wp2
      · have hd : (((s[k].toNat : Nat) : Int) == 48) = true := by assumption
        go_round
        case rel =>
          refine ⟨k + 1, by omega, by go_num, fun j hj => ?_⟩
          rcases Nat.lt_or_ge j k with hjk | hjk
          · exact hall.out j hjk
          · obtain rfl : j = k := by omega
            have h1 := HB.out
            have h2 : ((s[j].toNat : Nat) : Int) = 48 := by simpa using hd
            omega
        case measure => simp [intOf]; omega
      · have hd : (((s[k].toNat : Nat) : Int) == 48) = false := by assumption
        go_ret
        refine ⟨_, rfl, ?_, rfl⟩
        have e : decs (dval ds) = (ds.take s.size).drop k := by
          rw [← stripZ_eq ds H.out.2, List.take_of_length_le (by rw [hl.out]; exact Nat.le_refl _)]
          refine stripZ_drop ds k hall.out (fun _ => ?_)
          have h1 := HB.out
          have h2 : ¬ ((s[k].toNat : Nat) : Int) = 48 := by simpa using hd
          omega
        rw [e]
        exact H.out.cut k s.size
    · obtain rfl : k = s.size := by omega
      go_wp2
      go_ret
      refine ⟨_, rfl, ?_, rfl⟩
      have e : decs (dval ds) = (ds.take s.size).drop s.size := by
        rw [← stripZ_eq ds H.out.2, List.take_of_length_le (by rw [hl.out]; exact Nat.le_refl _)]
        exact stripZ_drop ds s.size hall.out (fun hh => by have := hl.out; omega)
      rw [e, List.drop_eq_nil_of_le (by simp; omega)]
      exact IsD.nil
theorem strip_c (s : ByteArray) (ds : List Nat) (w : World) (h : IsD s ds) (hs : s.size ≤ 1000000000) :
    Calls Try.prog 24 #[.string s] w fun e w' => ∃ s', e = .returned (.string s') ∧ IsD s' (decs (dval ds)) ∧ w = w' := strip_big s ds w h (by omega)
set_option maxHeartbeats 400000 in
theorem digit_c (s : ByteArray) (ds : List Nat) (w : World) (k : Int) (hk : 0 ≤ k) (hk2 : k ≤ 2000000000) (h : IsD s ds) (hs : s.size ≤ 1000000000) :
    Calls Try.prog 27 #[.string s, .int .i64 k] w fun e w' => e = .returned (.int .i64 (ds.reverse.getD k.toNat 0 : Nat)) ∧ w = w' := by
  obtain ⟨i, rfl⟩ := Int.eq_ofNat_of_zero_le hk
  rw [Int.toNat_natCast]
  have hl := Lib.hid h.size
  by_cases hlt : i < s.size
  · have hjs : s.size - 1 - i < s.size := by omega
    have hb := h.at_ hjs
    have e : ds.reverse.getD i 0 = ds.getD (s.size - 1 - i) 0 := by
      rw [List.getD, List.getD, List.getElem?_reverse (by rw [← hl.out]; exact hlt), ← hl.out]
    have hd10 : ds.getD (s.size - 1 - i) 0 < 10 := by
      have hj' : s.size - 1 - i < ds.length := by rw [← hl.out]; omega
      rw [List.getD, List.getElem?_eq_getElem hj']
      exact h.2 _ (List.getElem_mem hj')
    rw [e]
    generalize ds.getD (s.size - 1 - i) 0 = D at hb hd10
    have HB := Lib.hid hb
    clear h hb e
    go_enter Try.func27, Try.ntmps27
    go_wp2
    go_ret
    refine ⟨?_, rfl⟩
    have := HB.out
    exact ret_int (by omega)
  · have e : ds.reverse.getD i 0 = 0 := by
      rw [List.getD, List.getElem?_eq_none (by simp [← hl.out]; omega)]; rfl
    rw [e]
    clear h e
    go_enter Try.func27, Try.ntmps27
    go_wp2
    go_ret
    exact ⟨rfl, rfl⟩
set_option maxHeartbeats 400000 in
theorem less_c (s t : ByteArray) (a b : Nat) (w : World) (h : IsD s (decs a)) (h' : IsD t (decs b)) :
    Calls Try.prog 16 #[.string s, .string t] w fun e w' => e = .returned (.bool (decide (a < b))) ∧ w = w' := by
  have H := Lib.hid h
  have H' := Lib.hid h'
  clear h h'
  by_cases hne : s.size = t.size
  · have hb : (((s.size : Nat) : Int) != (t.size : Int)) = false := by simp; omega
    have hlen : (decs a).length = (decs b).length := by rw [← H.out.size, ← H'.out.size, hne]
    have HL := Lib.hid hlen
    clear hne hlen
    go_enter Try.func16, Try.ntmps16
    go_wp2
    go_ret
    refine ⟨?_, rfl⟩
    have e := bytesLess_digits s.toList t.toList (decs a) (decs b) H.out.list H'.out.list H.out.2 H'.out.2 HL.out
    rw [dval_decs, dval_decs] at e
    rw [← e]; rfl
  · have hb : (((s.size : Nat) : Int) != (t.size : Int)) = true := by simp; omega
    go_enter Try.func16, Try.ntmps16
    go_wp2
    go_ret
    refine ⟨?_, rfl⟩
    have e : decide (s.size < t.size) = decide (a < b) := by
      have h1 := H.out.size
      have h2 := H'.out.size
      rcases Nat.lt_or_gt_of_ne hne with hh | hh
      · have := decs_length_lt (a := a) (b := b) (by omega)
        simp [hh, this]
      · have := decs_length_lt (a := b) (b := a) (by omega)
        have h3 : ¬ a < b := by omega
        have h4 : ¬ s.size < t.size := by omega
        simp [h3, h4]
    rw [← e]; rfl
end Go.Proofs.Ytmfcjjjkndfojaa
