import Derived.Test.YtpbkndmciopnjaaDoorRefA
namespace Go.Proofs.YtpbkndmciopnjaaDoor
open Go.RowKit
set_option maxHeartbeats 400000 in
theorem text_c (A : Option Addr) (n c : Nat) (xs : List Nat) (w : World) (h : Limbs w A n xs) (g : ∀ x ∈ xs, x < 1000000000) (hn : n ≤ 100000000) :
    Calls Tryd.prog 10 #[.slice A n c] w fun e w' => ∃ s', e = .returned (.string s') ∧ IsD s' (decs (val 1000000000 xs)) ∧ Below w.heap.size w w' := by
  have hl := Lib.hid h.len
  have H := Lib.hid h
  have G := Lib.hid g
  clear h g
  go_enter Tryd.func10, Tryd.ntmps10
  go_wp2
  go_loopw [3, 4, 5, 6] (fun sv i _ _ wr => ∃ (k : Nat) (s : ByteArray) (ds : List Nat), k ≤ n ∧ i = .int .i64 k ∧ sv = .string s ∧ IsD s ds ∧ ds.length = 9 * k ∧ dval ds = val 1000000000 (xs.take k) ∧ Below w.heap.size w wr) (fun _ i _ _ _ => n - (intOf i).toNat)
  case atStart => exact ⟨0, _, [], Nat.zero_le _, rfl, rfl, IsD.nil, rfl, rfl, Below.refl _ _⟩
  case round =>
    obtain ⟨k, s, ds, hk, rfl, rfl, hs0, hlen, hv0, hb0⟩ := hrel
    have HS := Lib.hid hs0
    have hsz : s.size = 9 * k := by rw [hs0.size, hlen]
    have hsz2 : s.size ≤ 900000000 := by omega
    have HSZ := Lib.hid hsz
    have HV := Lib.hid hv0
    have HLEN := Lib.hid hlen
    have HB := Lib.hid hb0
    have HX := Lib.hid (H.out.below hb0)
    clear hs0 hv0 hb0 hsz hlen
    by_cases hlt : k < n
    · obtain ⟨ad, rfl, _, hcl, hx⟩ := HX.out.at_ hlt
      have hX1 := getD_lt 1000000000 (by omega) xs G.out k
      have hv1 := Lib.hid (val_take_succ 1000000000 xs k)
      generalize xs.getD k 0 = X at hcl hX1 hv1 hx
      go_wp2
      obtain ⟨wo, rfl⟩ : ∃ wo : World, wo = wr := ⟨_, rfl⟩
      go_loopw [3, 5, 6] (fun sv q i wi => ∃ (j : Nat) (t : ByteArray) (es : List Nat) (Q : Nat), j ≤ 9 ∧ i = .int .i64 j ∧ sv = .string t ∧ q = .int .u32 (Q : Int) ∧ Q < 1000000000 ∧ IsD t es ∧ es.length = 9 * k + j ∧
          dval es + 10 ^ (9 * k + j) * Q = dval ds + 10 ^ (9 * k) * X ∧ Q = X / 10 ^ j ∧ Below wo.heap.size wo wi) (fun _ _ i _ => 9 - (intOf i).toNat)
      case atStart =>
        exact ⟨0, s, ds, X, by omega, rfl, rfl, rfl, hX1, HS.out, by rw [HLEN.out]; rfl, rfl, by simp, Below.refl _ _⟩
      case round =>
        obtain ⟨j, t, es, Q, hj, rfl, rfl, rfl, hQ, ht0, htl, hv2, hq2, hbi⟩ := hrel
        have HT := Lib.hid ht0
        have htz : t.size ≤ 900000009 := by rw [ht0.size]; omega
        have HTL := Lib.hid htl
        have HV2 := Lib.hid hv2
        have HQ2 := Lib.hid hq2
        have HBI := Lib.hid hbi
        clear ht0 htl hv2 hq2 hbi
        by_cases hj9 : j < 9
        · have hcv := fun (W : World) (cap : Nat) => conv_byte W cap (48 + (Q : Int) % 10) (by omega) (by omega)
          have hbs := byteStr_size (48 + (Q : Int) % 10)
          go_wp2
          go_roundw
          case rel =>
            refine ⟨j + 1, _, (Q % 10) :: es, Q / 10, by omega, by go_num, rfl, by go_num, by omega, IsD.append (IsD.byte (by omega) (by omega)) HT.out, ?_, ?_, ?_, HBI.out.alloc HBI.out.size _⟩
            · simp [HTL.out]; omega
            · rw [dval_cons, HTL.out, ← HV2.out, ← Nat.add_assoc, Nat.pow_succ, Nat.mul_assoc, Nat.add_assoc, ← Nat.mul_add, Nat.mod_add_div]
            · rw [HQ2.out, Nat.div_div_eq_div_mul, Nat.pow_succ]
          case measure => simp [intOf]; omega
        · obtain rfl : j = 9 := by omega
          go_wp2
          go_roundw
          case rel =>
            refine ⟨k + 1, t, es, by omega, by go_num, rfl, HT.out, by rw [HTL.out]; omega, ?_, HB.out.trans (HBI.out.mono HB.out.size)⟩
            have h1 := HV2.out
            have h2 := HQ2.out
            have h3 : Q = 0 := by rw [h2]; exact Nat.div_eq_of_lt hX1
            rw [h3, Nat.mul_zero, Nat.add_zero, HV.out] at h1
            rw [h1, hv1.out, Nat.pow_mul]
          case measure => simp [intOf]; omega
    · obtain rfl : k = n := by omega
      go_wp2_with fail
      refine (strip_c s ds wr HS.out (by omega)).mono ?_
      rintro e w' ⟨s', rfl, hs', rfl⟩
      have HF := Lib.hid hs'
      clear hs'
      go_wp2
      go_ret
      refine ⟨s', rfl, ?_, HB.out⟩
      have h1 := HV.out
      rw [List.take_of_length_le (by rw [hl.out]; exact Nat.le_refl _)] at h1
      rw [← h1]; exact HF.out
end Go.Proofs.YtpbkndmciopnjaaDoor
