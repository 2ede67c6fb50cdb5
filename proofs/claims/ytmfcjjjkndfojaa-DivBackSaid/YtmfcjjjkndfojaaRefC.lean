import Derived.Test.YtmfcjjjkndfojaaRefB
namespace Go.Proofs.Ytmfcjjjkndfojaa
open Go.RowKit
theorem rev_take_succ (xs : List Nat) (k : Nat) (hk : k < xs.length) : xs.reverse.take (k + 1) = xs.reverse.take k ++ [xs.getD (xs.length - 1 - k) 0] := by
  rw [List.take_succ_eq_append_getElem (by simpa using hk)]
  simp [List.getD, List.getElem?_eq_getElem (show xs.length - 1 - k < xs.length by omega)]
set_option maxHeartbeats 400000 in
theorem turned_c (A : Option Addr) (n c : Nat) (xs : List Nat) (w : World) (h : Bytes w A n xs) :
    Calls Try.prog 28 #[.slice A n c] w fun e w' => ∃ s', e = .returned (.string s') ∧ s'.data.toList.map UInt8.toNat = xs.reverse ∧ Below w.heap.size w w' := by
  obtain ⟨i0, hi, hz0, hz1, hz2⟩ := info_parts u8_info
  have hn := h.2.1
  have hl := Lib.hid h.len
  have H := Lib.hid h
  clear h
  generalize hg : w.heap.size = g at *
  have Hg := Lib.hid hg
  clear hg
  go_enter Try.func28, Try.ntmps28
  go_wp2
  go_loopw [3, 4] (fun v i wr => ∃ k : Nat, k ≤ n ∧ i = .int .i64 ((n : Int) - 1 - (k : Int)) ∧ wr.ownsRow g 5 1 v k (u8s (xs.reverse.take k)) ∧ Below g w wr) (fun _ i _ => (intOf i + 1).toNat)
  case atStart => exact ⟨0, by omega, by go_num, World.ownsRow_nil _ _ _ _, Below.refl _ _⟩
  case round =>
    obtain ⟨k, hk, rfl, hown0, hb0⟩ := hrel
    have HO := Lib.hid hown0
    have HB := Lib.hid hb0
    have HX := Lib.hid (H.out.below (by rw [Hg.out]; exact hb0))
    clear hown0 hb0
    by_cases hlt : k < n
    · obtain ⟨j, hj⟩ : ∃ j : Nat, n = k + 1 + j := ⟨n - k - 1, by omega⟩
      have hjn : j < n := by omega
      obtain ⟨ad, rfl, _, hcl, hx⟩ := HX.out.at_ hjn
      have hst := rev_take_succ xs k (by rw [hl.out]; exact hlt)
      rw [show xs.length - 1 - k = j by rw [hl.out]; omega] at hst
      generalize xs.getD j 0 = X at hcl hx hst
      have HST := Lib.hid hst
      rw [show (n : Int) - 1 - (k : Int) = (j : Int) by omega]
      have HJ := Lib.hid hj
      clear hst hj
      have hsz : g ≤ wr.heap.size := by have := HB.out.size; have e := Hg.out; omega
      go_wp2_with (at_builtin; go_must (refine wpList_app_u8 rfl (.tmp 12) (.tmp 17) _ rfl Try.underlying46 g u3 k _ rfl HO.out _ rfl X rfl (by omega) HB.out hsz ?_))
      intro v' w' ho1 hb1
      go_wp2
      go_roundw
      case rel => exact ⟨k + 1, by omega, by have e := HJ.out; congr 1; omega, by rw [HST.out]; exact ho1.out, hb1.out⟩
      case measure => simp [intOf]
    · obtain rfl : k = n := by omega
      have hall : ∀ x ∈ xs.reverse.take k, x < 256 := fun x hx => H.out.2.2 x (List.mem_reverse.1 (List.mem_of_mem_take hx))
      obtain ⟨sr, hconv, hsr⟩ := conv_own HO.out hall
      have HSR := Lib.hid hsr
      clear hall hsr
      go_wp2
      go_ret
      refine ⟨sr, rfl, ?_, HB.out⟩
      rw [HSR.out, List.take_of_length_le (by simp [hl.out])]
end Go.Proofs.Ytmfcjjjkndfojaa
