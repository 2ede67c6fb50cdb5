import Derived.Test.YtmfcjjjkndfojaaRefE
namespace Go.Proofs.Ytmfcjjjkndfojaa
open Go.RowKit
theorem dval_take_succ (ds : List Nat) (k : Nat) (h : k < ds.length) : dval (ds.take (k + 1)) = dval (ds.take k) * 10 + ds.getD k 0 := by rw [take_snoc_getD ds k h, dval_snoc]
theorem IsD.nonempty {s : ByteArray} {n : Nat} (h : IsD s (decs n)) (hn : 0 < n) : s.toList.isEmpty = false := by
  have h1 := h.size
  have h2 : (decs n).length ≠ 0 := fun e => by have := (decs_length_zero n).1 e; omega
  rcases hl : s.toList with _ | ⟨x, r⟩
  · have := h.list
    rw [hl] at this
    simp at this
    exact absurd (by rw [this]; rfl) h2
  · rfl
theorem take_one (ds : List Nat) (k : Nat) (h : k < ds.length) : (ds.take (k + 1)).drop k = [ds.getD k 0] := by
  rw [take_snoc_getD ds k h, List.drop_append_of_le_length (by simp; omega), List.drop_eq_nil_of_le (by simp; omega)]
  rfl
/-- One digit of a division on paper. -/
theorem over_step {D b Q R n d T : Nat} (hD : D = b * Q + R) (hT : T = R * 10 + d) (hn : n = T / b) : D * 10 + d = b * (Q * 10 + n) + T % b := by
  subst hn
  have hm := Nat.div_add_mod T b
  rw [Nat.mul_add, ← Nat.mul_assoc]
  subst hT
  omega
set_option maxHeartbeats 1000000 in
set_option maxRecDepth 100000 in
theorem over_c (s t : ByteArray) (ds : List Nat) (b : Nat) (w : World) (h : IsD s ds) (h' : IsD t (decs b)) (hs : s.size ≤ 10000000) (ht : t.size ≤ 10000000) (hb0 : 0 < b) :
    Calls Try.prog 12 #[.string s, .string t] w fun e w' => ∃ s1 s2, e = .returned (.tuple #[.string s1, .string s2]) ∧ IsD s1 (decs (dval ds / b)) ∧ IsD s2 (decs (dval ds % b)) ∧ Below w.heap.size w w' := by
  have hl := Lib.hid h.size
  have HT := Lib.hid h'.size
  have H := Lib.hid h
  have H' := Lib.hid h'
  have hd10 := Lib.hid h.2
  clear h h'
  go_enter Try.func12, Try.ntmps12
  go_wp2
  go_loopw [6, 7, 8, 9] (fun qv rv i _ wr => ∃ (k : Nat) (qs rs : ByteArray) (es : List Nat) (R : Nat), k ≤ s.size ∧ i = .int .i64 k ∧ qv = .string qs ∧ rv = .string rs ∧ Hid (IsD qs es) ∧ Hid (es.length = k) ∧ Hid (IsD rs (decs R)) ∧ R < b ∧
      Hid (dval (ds.take k) = b * dval es + R) ∧ Hid (Below w.heap.size w wr)) (fun _ _ i _ _ => s.size - (intOf i).toNat)
  case atStart => exact ⟨0, _, _, [], 0, Nat.zero_le _, rfl, rfl, rfl, Lib.hid IsD.nil, Lib.hid rfl, Lib.hid (by rw [decs_zero]; exact IsD.nil), hb0, Lib.hid (by simp [dval, val]), Lib.hid (Below.refl _ _)⟩
  case round =>
    obtain ⟨k, qs, rs, es, R, hk, rfl, rfl, rfl, HQ, HEL, HRS, hR, HV, HB⟩ := hrel
    have hqz : qs.size ≤ 10000000 := by rw [HQ.out.size, HEL.out]; omega
    have hrz : rs.size ≤ 10000000 := by
      rw [HRS.out.size]
      have := decs_length_le (Nat.le_of_lt hR)
      have := HT.out
      omega
    by_cases hlt : k < s.size
    · have hd := getD_lt 10 (by omega) ds hd10.out k
      have hts := dval_take_succ ds k (by rw [← hl.out]; exact hlt)
      have hcut := H.out.cut k (k + 1)
      rw [take_one ds k (by rw [← hl.out]; exact hlt)] at hcut
      generalize ds.getD k 0 = d at *
      have HTS := Lib.hid hts
      have HC := Lib.hid (HRS.out.append hcut)
      have hcz : (s.extract k (k + 1)).size = 1 := by rw [hcut.size]; rfl
      clear hts hcut
      have hkk : ¬ ((k : Int) + 1 < (k : Int)) := by omega
      go_wp2_with fail
      refine (strip_c _ _ wr HC.out (by rw [HC.out.size]; have := HRS.out.size; simp; omega)).mono ?_
      rintro e w' ⟨r0, rfl, hr0, rfl⟩
      rw [dval_snoc, dval_decs] at hr0
      have HR0 := Lib.hid hr0
      have hT10 : R * 10 + d < 10 * b := by omega
      clear hr0 HRS HC hkk
      generalize hTT : R * 10 + d = T at *
      have HTT := Lib.hid hTT
      clear hTT
      go_wp2
      obtain ⟨wo, rfl⟩ : ∃ wo : World, wo = wr := ⟨_, rfl⟩
      go_loopw [7, 9] (fun rv nv wi => ∃ (j : Nat) (r1 : ByteArray), nv = .int .i64 j ∧ rv = .string r1 ∧ Hid (IsD r1 (decs (T - b * j))) ∧ Hid (b * j ≤ T) ∧ j ≤ 10 ∧ Hid (Below wo.heap.size wo wi)) (fun _ nv _ => 10 - (intOf nv).toNat)
      case atStart => exact ⟨0, r0, rfl, rfl, by rw [Nat.mul_zero, Nat.sub_zero]; exact HR0, Lib.hid (by omega), by omega, Lib.hid (Below.refl _ _)⟩
      case round =>
        obtain ⟨j, r1, rfl, rfl, HR1, HJ, hj, HBI⟩ := hrel
        have CL := less_c r1 t (T - b * j) b wr HR1.out H'.out
        by_cases hless : T - b * j < b
        · rw [decide_eq_true hless] at CL
          have HCL := Lib.hid CL
          have hjq : j = T / b := by
            have := HJ.out
            refine (Nat.div_eq_of_lt_le ?_ ?_).symm
            · rw [Nat.mul_comm]; exact this
            · rw [Nat.mul_comm, Nat.mul_add]; omega
          have hjm : T - b * j = T % b := by rw [hjq]; have := Nat.div_add_mod T b; omega
          have hj9 : j ≤ 9 := by
            have : j < 10 := by rw [hjq, Nat.div_lt_iff_lt_mul hb0]; exact hT10
            omega
          have HJQ := Lib.hid hjq
          have HR2 := Lib.hid (hjm ▸ HR1.out)
          have hcv := fun (W : World) (cap : Nat) => conv_byte W cap (48 + (j : Int)) (by omega) (by omega)
          have hbs := byteStr_size (48 + (j : Int))
          clear CL hless hjq hjm
          go_wp2_with fail
          refine HCL.out.mono ?_
          rintro e w' ⟨rfl, rfl⟩
          clear HCL
          go_wp2
          go_roundw
          case rel =>
            refine ⟨k + 1, _, r1, es ++ [j], T % b, by omega, by go_num, rfl, rfl, Lib.hid (HQ.out.append (IsD.byte rfl (by omega))), Lib.hid (by simp [HEL.out]), HR2, Nat.mod_lt _ hb0, Lib.hid ?_, Lib.hid ((HB.out.trans (HBI.out.mono HB.out.size)).alloc (Nat.le_trans HB.out.size HBI.out.size) _)⟩
            rw [HTS.out, dval_snoc]
            exact over_step HV.out HTT.out.symm HJQ.out
          case measure => simp [intOf]; omega
        · rw [decide_eq_false hless] at CL
          have HCL := Lib.hid CL
          have hj9 : j < 10 := by
            rcases Nat.lt_or_ge j 10 with h0 | h0
            · exact h0
            · have : b * 10 ≤ b * j := Nat.mul_le_mul_left b h0
              omega
          have hle1 : (decs b).length ≤ (decs (T - b * j)).length := decs_length_le (by omega)
          have hrz1 : r1.size ≤ 100000000 := by
            rw [HR1.out.size]
            refine Nat.le_trans (decs_length_le (Nat.le_of_lt (Nat.lt_of_le_of_lt (Nat.sub_le _ _) hT10))) ?_
            have h1 := lt_pow_decs b
            have h2 : (decs (10 * b)).length ≤ (decs b).length + 1 := decs_len (by rw [Nat.pow_succ]; omega)
            have := HT.out
            omega
          have CM := minus_c r1 t _ _ wr HR1.out H'.out hrz1 hle1 (by rw [dval_decs, dval_decs]; omega)
          rw [dval_decs, dval_decs] at CM
          have HCM := Lib.hid CM
          have HJ2 := Lib.hid (show b * (j + 1) ≤ T by have := HJ.out; rw [Nat.mul_add]; omega)
          have hsub : T - b * j - b = T - b * (j + 1) := by rw [Nat.mul_add]; omega
          have HSUB := Lib.hid hsub
          clear CL CM hless hle1 hsub
          go_wp2_with fail
          refine HCL.out.mono ?_
          rintro e w' ⟨rfl, rfl⟩
          clear HCL
          go_wp2_with fail
          refine HCM.out.mono ?_
          rintro e w2 ⟨r2, rfl, hr2, hb2⟩
          rw [HSUB.out] at hr2
          have HR2 := Lib.hid hr2
          have HB2 := Lib.hid (HBI.out.trans (hb2.mono HBI.out.size))
          clear hr2 hb2 HCM
          go_wp2
          go_roundw
          case rel => exact ⟨j + 1, r2, by go_num, rfl, HR2, HJ2, by omega, HB2⟩
          case measure => simp [intOf]; omega
    · obtain rfl : k = s.size := by omega
      go_wp2_with fail
      refine (strip_c qs es wr HQ.out (by omega)).mono ?_
      rintro e w' ⟨s', rfl, hs', rfl⟩
      have hv := HV.out
      rw [List.take_of_length_le (by rw [← hl.out]; exact Nat.le_refl _)] at hv
      have h1 : dval es = dval ds / b := by rw [hv, Nat.mul_add_div hb0, Nat.div_eq_of_lt hR, Nat.add_zero]
      have h2 : R = dval ds % b := by rw [hv, Nat.mul_add_mod, Nat.mod_eq_of_lt hR]
      have HS1 := Lib.hid (h1 ▸ hs')
      have HS2 := Lib.hid (h2 ▸ HRS.out)
      clear hs' hv h1 h2
      go_wp2
      go_ret2
      exact ⟨s', rs, rfl, HS1.out, HS2.out, HB.out⟩
end Go.Proofs.Ytmfcjjjkndfojaa
