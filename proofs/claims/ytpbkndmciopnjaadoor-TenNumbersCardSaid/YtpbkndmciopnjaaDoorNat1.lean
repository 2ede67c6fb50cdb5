import Derived.Test.YtpbkndmciopnjaaDoorBase
import Derived.Test.YtpbkndmciopnjaaDoorMath
namespace Go.Proofs.YtpbkndmciopnjaaDoor
open Go.RowKit
set_option maxHeartbeats 400000 in
theorem refGood_c (A : Option Addr) (n c : Nat) (xs : List Nat) (w : World) (h : Limbs w A n xs) :
    Calls Tryd.prog 21 #[.slice A n c] w fun e w' => e = .returned (.bool (xs.all (fun x => decide (x ≤ 999999999)))) ∧ w = w' := by
  have hn := h.2.1
  have hl := Lib.hid h.len
  have H := Lib.hid h
  clear h
  go_enter Tryd.func21, Tryd.ntmps21
  go_wp2
  go_loop [3] (fun i => ∃ k : Nat, k ≤ n ∧ i = .int .i64 k ∧ ∀ j, j < k → xs.getD j 0 ≤ 999999999) (fun i => n - (intOf i).toNat)
  case atStart => exact ⟨0, Nat.zero_le _, rfl, fun j hj => absurd hj (by omega)⟩
  case round =>
    obtain ⟨k, hk, rfl, hall0⟩ := hrel
    have hall := Lib.hid hall0
    clear hall0
    by_cases hlt : k < n
    · obtain ⟨ad, rfl, hb, hc, hx⟩ := H.out.at_ hlt
      go_wp2
      · rename_i h1 _
        go_ret
        refine ⟨?_, rfl⟩
        have : xs.all (fun x => decide (x ≤ 999999999)) = false := by
          rw [List.all_eq_false]
          have hlt' : k < xs.length := by rw [hl.out]; exact hlt
          refine ⟨xs[k], List.getElem_mem hlt', ?_⟩
          rw [List.getElem?_eq_getElem hlt', Option.getD_some] at h1
          simp; omega
        rw [this]; rfl
      · go_round
        case rel =>
          refine ⟨k + 1, by omega, by go_num, fun j hj => ?_⟩
          rcases Nat.lt_or_ge j k with hjk | hjk
          · exact hall.out j hjk
          · obtain rfl : j = k := by omega
            rw [List.getD]; omega
        case measure => simp [intOf]; omega
    · go_wp2
      go_ret
      refine ⟨?_, rfl⟩
      have : xs.all (fun x => decide (x ≤ 999999999)) = true := by
        rw [List.all_eq_true]
        intro x hx
        obtain ⟨j, hj, rfl⟩ := List.mem_iff_getElem.1 hx
        have := hall.out j (by rw [hl.out] at hj; omega)
        rw [List.getD, List.getElem?_eq_getElem hj, Option.getD_some] at this
        simpa using this
      rw [this]; rfl
set_option maxHeartbeats 400000 in
theorem size_c (A : Option Addr) (n c : Nat) (xs : List Nat) (w : World) (h : Limbs w A n xs) :
    Calls Tryd.prog 28 #[.slice A n c] w fun e w' => e = .returned (.int .i64 (tz xs : Nat)) ∧ w = w' := by
  have hn := h.2.1
  have hl := Lib.hid h.len
  have H := Lib.hid h
  clear h
  go_enter Tryd.func28, Tryd.ntmps28
  go_wp2
  go_loop [3] (fun i => ∃ k : Nat, k ≤ n ∧ i = .int .i64 k ∧ ∀ j, k ≤ j → xs.getD j 0 = 0) (fun i => (intOf i).toNat)
  case atStart => exact ⟨n, Nat.le_refl _, rfl, fun j hj => by rw [List.getD, List.getElem?_eq_none (by rw [hl.out]; exact hj)]; rfl⟩
  case round =>
    obtain ⟨k, hk, rfl, hall0⟩ := hrel
    have hall := Lib.hid hall0
    clear hall0
    rcases k with _ | k
    · go_wp2
      go_ret
      refine ⟨?_, rfl⟩
      rw [tz_eq xs 0 hall.out (fun h => absurd h (by omega))]
      rfl
    · obtain ⟨ad, rfl, hb, hc, hx⟩ := H.out.at_ (k := k) (by omega)
      go_wp2
      · have hz : ((xs[k]?.getD 0 : Nat) : Int) == 0 := by assumption
        go_round
        case rel =>
          refine ⟨k, by omega, rfl, fun j hj => ?_⟩
          rcases Nat.eq_or_lt_of_le hj with rfl | hj
          · rw [List.getD]; simpa using hz
          · exact hall.out j hj
        case measure => simp [intOf]
      · have hz : (((xs[k]?.getD 0 : Nat) : Int) == 0) = false := by assumption
        go_ret
        refine ⟨?_, rfl⟩
        rw [tz_eq xs (k + 1) hall.out (fun _ => by rw [List.getD]; simpa using hz)]
        rfl
set_option maxHeartbeats 400000 in
theorem trim_c (A : Option Addr) (n c : Nat) (xs : List Nat) (w : World) (h : Limbs w A n xs) (hn : n ≤ 1000000000) :
    Calls Tryd.prog 22 #[.slice A n c] w fun e w' => ∃ A' m c', e = .returned (.slice A' m c') ∧ OwnS w' w.heap.size A' m c' (trim xs) ∧ Below w.heap.size w w' := by
  obtain ⟨i0, hi, hz0, hz1, hz2⟩ := info_parts u32_info
  have hl := Lib.hid h.len
  have htz := tz_le xs
  rw [hl.out] at htz
  have H := Lib.hid h
  clear h
  go_enter Tryd.func22, Tryd.ntmps22
  go_wp2_with fail
  refine (size_c A n c xs w H.out).mono ?_
  rintro e w' ⟨rfl, rfl⟩
  go_wp2_with (at_make; refine wpList_make_full _ rfl _ _ 22 rfl w.heap.size 39 i0 (.int .u32 0) 1 Tryd.underlying22 hi hz0 hz1 _ _ _ _ (tz xs) rfl rfl rfl rfl ?b2 ?b3 (Nat.le_refl _) ?_)
  case b2 => rw [hz2]; omega
  case b3 => unfold maxLen; omega
  intro w1 hown hgrow
  rw [made_u32] at hown
  have hb1 : Below w.heap.size w w1 := (Below.refl _ _).grown hgrow (Nat.le_refl _) (fun k hk => by cases hk)
  have H1 := Lib.hid (H.out.below hb1)
  have HB := Lib.hid (own_blk hown)
  clear hown hgrow
  go_wp2_with (refine wpList_copy_splice rfl (.tmp 7) (.tmp 8) _ _ rfl 39 Tryd.underlying22 (by rw [hi]; simp [hz1]) _ A _ (tz xs) n c rfl rfl w.heap.size 0 (u32s (List.replicate (tz xs) 0)) 39 HB.out.1 (u32s (xs.take (tz xs))) ?c1 ?c2 ?c3 (u32_one _) w.heap.size w hb1 (Nat.le_refl _) ?_)
  case c1 => simp only [u32s_length, List.length_take, hl.out]; exact Nat.min_comm _ _
  case c2 =>
    intro hp
    obtain ⟨ad, e1, hb, hcell⟩ := H1.out.1.2 (by simp [u32s_length, hl.out] at hp; omega)
    refine ⟨ad, e1, fun j v hv => hcell j v ?_⟩
    rw [u32s_get] at hv ⊢
    rw [List.getElem?_take] at hv
    split at hv
    · exact hv
    · simp at hv
  case c3 => simp [u32s_length, hl.out]; omega
  intro w2 hh hb2
  rw [splice_all _ _ (by simp [u32s_length, hl.out]; omega)] at hh
  go_wp2
  go_ret
  refine ⟨_, _, _, rfl, ⟨?_, by omega, fun x hx => H.out.2.2 x (List.mem_of_mem_take hx)⟩, hb2⟩
  exact own_of_blk hh.out (Nat.le_refl _) (by simp [u32s_length, trim_length]) (by unfold maxLen; omega)
end Go.Proofs.YtpbkndmciopnjaaDoor
