import Derived.Test.YtpbkndmciopnjaaDoorRefE
namespace Go.Proofs.YtpbkndmciopnjaaDoor
open Go.RowKit
set_option maxHeartbeats 800000 in
set_option maxRecDepth 100000 in
theorem number_c (s : ByteArray) (ds : List Nat) (w : World) (h : IsD s ds) (hs : s.size ≤ 100000000) :
    Calls Tryd.prog 16 #[.string s] w fun e w' => ∃ A m c, e = .returned (.slice A m c) ∧ OwnS w' w.heap.size A m c (digs 1000000000 (dval ds)) ∧ Below w.heap.size w w' := by
  have H := Lib.hid h
  clear h
  generalize hV : dval ds = V
  have HVV := Lib.hid hV
  clear hV
  generalize hg : w.heap.size = g at *
  have Hg := Lib.hid hg
  clear hg
  go_enter Tryd.func16, Tryd.ntmps16
  go_wp2_with fail
  refine (strip_c s ds w H.out (by omega)).mono ?_
  rintro e w' ⟨s0, rfl, hs0, rfl⟩
  rw [HVV.out] at hs0
  have HS0 := Lib.hid hs0
  have hs0z : s0.size ≤ 100000000 := by
    rw [HS0.out.size, ← HVV.out]
    have := decs_dval_length ds H.out.2
    have := H.out.size
    omega
  clear hs0
  go_wp2_with fail
  go_loopw [0, 3, 4, 5, 6] (fun sv v _ _ _ wr => ∃ (k V' : Nat) (s1 : ByteArray) (os : List Nat), sv = .string s1 ∧ IsD s1 (decs V') ∧ s1.size ≤ 100000000 ∧ k ≤ 100000000 - s1.size ∧
      wr.ownsRow g 39 1 v k (u32s os) ∧ (∀ x ∈ os, x < 1000000000) ∧ os ++ digs 1000000000 V' = digs 1000000000 V ∧ Below g w wr) (fun sv _ _ _ _ _ => strLen sv)
  case atStart => exact ⟨0, V, s0, [], rfl, HS0.out, hs0z, by omega, World.ownsRow_nil _ _ _ _, by simp, rfl, Below.refl _ _⟩
  case round =>
    obtain ⟨k, V', s1, os, rfl, hs1, hs1z, hk, hown0, hos0, hv0, hb0⟩ := hrel
    have HS := Lib.hid hs1
    have HLEN := Lib.hid hs1.size
    have HO := Lib.hid hown0
    have HOS := Lib.hid hos0
    have HV := Lib.hid hv0
    have HB := Lib.hid hb0
    have hsz : g ≤ wr.heap.size := by have := hb0.size; have e := Hg.out; omega
    clear hs1 hown0 hos0 hv0 hb0
    by_cases hpos : 0 < s1.size
    · have HF := Lib.hid (show max (0 : Int) ((s1.size : Int) - 9) = ((s1.size - 9 : Nat) : Int) by omega)
      have hf1 : s1.size - 9 ≤ s1.size := by omega
      generalize hf0 : s1.size - 9 = f at HF hf1
      have hf2 : s1.size ≤ f + 9 := by omega
      have HF0 := Lib.hid hf0
      clear hf0
      go_wp2_with fail
      rw [HF.out]
      obtain ⟨wo, rfl⟩ : ∃ wo : World, wo = wr := ⟨_, rfl⟩
      go_loop [5, 6] (fun n i => ∃ (j N : Nat), f ≤ j ∧ j ≤ s1.size ∧ i = .int .i64 (j : Int) ∧ n = .int .u32 (N : Int) ∧ N < 10 ^ (j - f) ∧ N = dval (((decs V').drop f).take (j - f))) (fun _ i => s1.size - (intOf i).toNat)
      case atStart => exact ⟨f, 0, by omega, by omega, rfl, rfl, by simp, by simp [dval, val]⟩
      case round =>
        obtain ⟨j, N, hj1, hj2, rfl, rfl, hN, hNv⟩ := hrel
        have HN := Lib.hid hN
        have HNV := Lib.hid hNv
        have hN10 : N < 1000000000 := Nat.lt_of_lt_of_le hN (Nat.pow_le_pow_right (by omega) (show j - f ≤ 9 by omega))
        clear hN hNv
        by_cases hlt : j < s1.size
        · have hb := HS.out.at_ hlt
          have hN9 : N < 100000000 := Nat.lt_of_lt_of_le HN.out (Nat.pow_le_pow_right (by omega) (show j - f ≤ 8 by omega))
          have hd10 : (decs V').getD j 0 < 10 := getD_lt 10 (by omega) _ (decs_lt V') j
          have hstep : dval (((decs V').drop f).take (j + 1 - f)) = dval (((decs V').drop f).take (j - f)) * 10 + (decs V').getD j 0 := by
            rw [show j + 1 - f = (j - f) + 1 by omega, take_snoc_getD _ _ (by rw [List.length_drop]; have := HLEN.out; omega), dval_snoc]
            congr 1
            rw [List.getD, List.getElem?_drop, List.getD]
            congr 2; omega
          generalize (decs V').getD j 0 = D at hb hd10 hstep
          have HBb := Lib.hid hb
          have HST := Lib.hid hstep
          clear hb hstep
          go_wp2
          go_round
          case rel =>
            have e1 := HBb.out
            refine ⟨j + 1, N * 10 + D, by omega, by omega, by go_num, by congr 1; omega, ?_, ?_⟩
            · have e2 := HN.out
              rw [show j + 1 - f = (j - f) + 1 by omega, Nat.pow_succ]
              omega
            · rw [HST.out, ← HNV.out]
          case measure => simp [intOf]; omega
        · obtain rfl : j = s1.size := by omega
          go_wp2_with (at_builtin; go_must (refine wpList_app_u32 rfl (.tmp 31) (.tmp 33) _ rfl Tryd.underlying22 g u3 k _ rfl HO.out _ rfl N (by omega) (by omega) HB.out hsz ?_))
          intro v' w' ho1 hb1
          go_wp2
          have hL := HLEN.out
          have hF := HF0.out
          have hV0 : V' ≠ 0 := by
            intro e
            rw [e, decs_zero, List.length_nil] at hL
            omega
          have hcut := HS.out.cut 0 f
          rw [List.drop_zero, ← hF, hL, decs_take V' 9, ← hL, hF] at hcut
          have hN2 : N = V' % 10 ^ 9 := by
            rw [HNV.out, List.take_of_length_le (by rw [List.length_drop]; omega), ← hF, hL, decs_drop V' 9]
          go_roundw
          case rel =>
            refine ⟨k + 1, V' / 10 ^ 9, _, os ++ [N], rfl, hcut, ?_, ?_, ho1.out, ?_, ?_, hb1.out⟩
            · rw [ByteArray.size_extract]; omega
            · rw [ByteArray.size_extract]; omega
            · intro x hx
              rcases List.mem_append.1 hx with hx | hx
              · exact HOS.out x hx
              · rw [List.mem_singleton.1 hx]; exact hN10
            · rw [← HV.out, digs_pos (by omega) hV0, hN2, List.append_assoc]
              rfl
          case measure =>
            have hlt' : f < s1.size := by omega
            simp only [strLen, ByteArray.size_extract]
            exact Nat.lt_of_le_of_lt (Nat.le_trans (Nat.sub_le _ _) (Nat.min_le_left _ _)) hlt'
    · go_wp2
      go_ret
      have hL := HLEN.out
      have hV0 : V' = 0 := (decs_length_zero V').1 (by omega)
      obtain ⟨A, c, hA⟩ := own_form HO.out
      have e1 := HV.out
      rw [hV0, digs_zero, List.append_nil] at e1
      subst hA
      refine ⟨A, k, c, rfl, ⟨by rw [← e1]; exact HO.out, by omega, fun x hx => ?_⟩, HB.out⟩
      have := digs_lt 1000000000 (by omega) V x hx
      omega
end Go.Proofs.YtpbkndmciopnjaaDoor
