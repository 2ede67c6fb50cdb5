import Derived.Test.YthddeiadcecggaaMul1
namespace Go.Proofs.Ythddeiadcecggaa
open Go.RowKit
/-- A row of the call's own, trimmed, is the answer. -/
theorem trim_own (g N : Nat) (us : List Nat) (V : Nat) (w0 w : World) (hown : w.ownsRow g 30 1 (.slice (some ⟨g, 0, none⟩) N N) N (u32s us)) (hN : N ≤ 1000000000) (hb : Below g w0 w) (hg : w0.heap.size = g)
    (hu : ∀ z ∈ us, z < 1000000000) (hv : val 1000000000 us = V) :
    Calls Try.prog 18 #[.slice (some ⟨g, 0, none⟩) N N] w fun e w' => ∃ A' m c', e = .returned (.slice A' m c') ∧ OwnS w' g A' m c' (digs 1000000000 V) ∧ Below g w0 w' := by
  have hlim : OwnS w g (some ⟨g, 0, none⟩) N N us := ⟨hown, by omega, fun z hz => by have := hu z hz; omega⟩
  refine (trim_c _ _ _ us w hlim.limbs (by omega)).mono ?_
  rintro e w' ⟨A1, m1, c1, rfl, ho1, hb1⟩
  have hsz : g ≤ w.heap.size := by have := hb.size; omega
  rw [trim_eq_digs 1000000000 (by omega) _ hu, hv] at ho1
  exact ⟨A1, m1, c1, rfl, ho1.weaken hsz, hb.trans (hb1.mono hsz)⟩
set_option maxHeartbeats 1000000 in
set_option maxRecDepth 100000 in
theorem small_c (A : Option Addr) (n c : Nat) (xs : List Nat) (y z : Nat) (w : World) (h : Limbs w A n xs) (gx : ∀ x ∈ xs, x < 1000000000) (hn : n ≤ 900000000) (hy : y < 1000000000) (hz : z < 1000000000) :
    Calls Try.prog 16 #[.slice A n c, .int .u32 (y : Int), .int .u32 (z : Int)] w fun e w' => ∃ A' m c', e = .returned (.slice A' m c') ∧ OwnS w' w.heap.size A' m c' (digs 1000000000 (val 1000000000 xs * y + z)) ∧ Below w.heap.size w w' := by
  obtain ⟨i0, hi, hz0, hz1, hz2⟩ := info_parts u32_info
  have H := Lib.hid h
  have GX := Lib.hid gx
  clear h gx
  go_enter Try.func16, Try.ntmps16
  go_wp2_with (at_make; refine wpList_make_full _ rfl _ _ 22 rfl w.heap.size 30 i0 (.int .u32 0) 1 Try.underlying22 hi hz0 hz1 _ _ _ _ (n + 1) rfl rfl ?b0 ?b1 ?b2 ?b3 (Nat.le_refl _) ?_)
  case b0 => omega
  case b1 => omega
  case b2 => rw [hz2]; omega
  case b3 => unfold maxLen; omega
  intro w1 hown hgrow
  rw [made_u32] at hown
  have hb1 : Below w.heap.size w w1 := (Below.refl _ _).grown hgrow (Nat.le_refl _) (fun k hk => by cases hk)
  have W0 := Lib.hid hown
  have HB1 := Lib.hid hb1
  have hR := Lib.hid (H.out.1.below hb1)
  generalize hg : w.heap.size = g at W0 HB1 hR
  have Hg := Lib.hid hg
  have hcell : w1.cell? ⟨g, 0, none⟩ = some (.int .u32 0) := own_at W0.out (j := 0) (by omega)
  have hfr : w1.frozen? ⟨g, 0, none⟩ = false := W0.out.frozenAt 0
  clear hown hb1 hgrow hg
  go_wp2_with fail
  have hown2 := (W0.out.stored 0 (.int .u32 (z : Int))).1
  rw [← u32s_set] at hown2
  have hst := val_set 1000000000 (List.replicate (n + 1) 0) 0 z (by simp)
  rw [val_replicate, getD_replicate, Nat.pow_zero, Nat.one_mul, Nat.one_mul, Nat.zero_add, Nat.add_zero] at hst
  have gz : ∀ u ∈ (List.replicate (n + 1) 0).set 0 z, u < 1000000000 := by
    intro u hu
    rcases List.mem_or_eq_of_mem_set hu with hu | hu
    · rw [List.eq_of_mem_replicate hu]; omega
    · omega
  have hz00 : n = 0 ∨ ((List.replicate (n + 1) 0).set 0 z).getD (0 + n) 0 = 0 := by
    rcases Nat.eq_zero_or_pos n with h0 | h0
    · exact .inl h0
    · refine .inr ?_
      rw [getD_set_ne _ _ _ _ (by omega), getD_replicate]
  have CC := addTimes_c g 0 (n + 1) (n + 1) _ A n c xs y _ (by omega) (by omega) (by omega) hown2 (hR.out.setCell (Nat.le_refl _) _) GX.out gz hy hz00
  rw [hst] at CC
  have HB2 := Lib.hid (HB1.out.setCell (p := ⟨g, 0, none⟩) (Nat.le_refl _) (.int .u32 (z : Int)))
  have HC := Lib.hid CC
  clear CC hst gz hz00 hown2
  refine HC.out.mono ?_
  rintro e w3 ⟨us, rfl, hown3, hb3, hul, hub, hval, -⟩
  have HO3 := Lib.hid hown3
  have HB3 := Lib.hid (HB2.out.trans hb3)
  have HUB := Lib.hid hub
  have HV := Lib.hid (show val 1000000000 us = val 1000000000 xs * y + z by rw [hval, Nat.pow_zero, Nat.one_mul, Nat.mul_comm y, Nat.add_comm])
  clear hown3 hb3 hub hval hul HC hcell hfr
  go_wp2_with fail
  refine (trim_own g (n + 1) us _ w w3 HO3.out (by omega) HB3.out Hg.out HUB.out HV.out).mono ?_
  rintro e w4 ⟨A4, m4, c4, rfl, ho, hb⟩
  have HO := Lib.hid ho
  have HB := Lib.hid hb
  clear ho hb
  go_wp2
  go_ret
  exact ⟨A4, m4, c4, rfl, by rw [Hg.out]; exact HO.out, by rw [Hg.out]; exact HB.out⟩
set_option maxHeartbeats 1000000 in
set_option maxRecDepth 100000 in
theorem mul_c (A A' : Option Addr) (n c n' c' : Nat) (xs ys : List Nat) (w : World) (h : Limbs w A n xs) (h' : Limbs w A' n' ys) (gx : ∀ x ∈ xs, x < 1000000000) (gy : ∀ y ∈ ys, y < 1000000000)
    (hn : n ≤ 100000000) (hn' : n' ≤ 100000000) :
    Calls Try.prog 11 #[.slice A n c, .slice A' n' c'] w fun e w' => ∃ A1 m1 c1, e = .returned (.slice A1 m1 c1) ∧
      OwnS w' w.heap.size A1 m1 c1 (digs 1000000000 (val 1000000000 xs * val 1000000000 ys)) ∧ Below w.heap.size w w' := by
  obtain ⟨i0, hi, hz0, hz1, hz2⟩ := info_parts u32_info
  have H := Lib.hid h
  have H' := Lib.hid h'
  have GX := Lib.hid gx
  have GY := Lib.hid gy
  clear h h' gx gy
  go_enter Try.func11, Try.ntmps11
  go_wp2_with fail
  refine (trim_c A n c xs w H.out (by omega)).mono ?_
  rintro e w1 ⟨A1, m1, c1, rfl, ho, hb⟩
  have hm1 : m1 ≤ 100000000 := by have e := ho.len; have := tz_le xs; have := H.out.len; rw [trim_length] at e; omega
  have O1 := Lib.hid ho
  have B := Lib.hid hb
  clear ho hb
  go_wp2_with fail
  refine (trim_c A' n' c' ys w1 (H'.out.below B.out) (by omega)).mono ?_
  rintro e w2 ⟨A2, m2, c2, rfl, ho, hb⟩
  have hm2 : m2 ≤ 100000000 := by have e := ho.len; have := tz_le ys; have := H'.out.len; rw [trim_length] at e; omega
  replace O1 := Lib.hid (O1.out.keep hb rfl)
  have O2 := Lib.hid ho
  replace B := Lib.hid (B.out.trans (hb.mono B.out.size))
  clear ho hb
  have GXS := Lib.hid (show ∀ x ∈ trim xs, x < 1000000000 from fun x hx => GX.out x (List.mem_of_mem_take hx))
  have GYS := Lib.hid (show ∀ x ∈ trim ys, x < 1000000000 from fun x hx => GY.out x (List.mem_of_mem_take hx))
  have hvx := val_trim 1000000000 xs
  have hvy := val_trim 1000000000 ys
  have E1 := Lib.hid hvx
  have E2 := Lib.hid hvy
  clear hvx hvy
  generalize trim xs = XS at O1 GXS E1
  generalize trim ys = YS at O2 GYS E2
  obtain ⟨N, hN⟩ : ∃ N : Nat, N = m1 + m2 := ⟨_, rfl⟩
  have HNI := Lib.hid (show (m1 : Int) + (m2 : Int) = (N : Int) by omega)
  have hN1 : N ≤ 200000000 := by omega
  have hN2 : m1 + m2 ≤ N := by omega
  have HN := Lib.hid hN
  clear hN
  go_wp2_with (at_make; refine wpList_make_full _ rfl _ _ 22 rfl w2.heap.size 30 i0 (.int .u32 0) 1 Try.underlying22 hi hz0 hz1 _ _ _ _ N rfl rfl ?b0 ?b1 ?b2 ?b3 (Nat.le_refl _) ?_)
  case b0 => have := HNI.out; omega
  case b1 => have := HNI.out; omega
  case b2 => rw [hz2]; omega
  case b3 => unfold maxLen; omega
  rw [HNI.out]
  intro w3 hown hgrow
  rw [made_u32] at hown
  have hb3 : Below w2.heap.size w2 w3 := (Below.refl _ _).grown hgrow (Nat.le_refl _) (fun k hk => by cases hk)
  have W0 := Lib.hid hown
  have HB3 := Lib.hid hb3
  have hR1 := Lib.hid O1.out.limbs.1
  have hR2 := Lib.hid O2.out.limbs.1
  generalize hg : w2.heap.size = g at W0 HB3 hR1 hR2
  have Hg := Lib.hid hg
  have hwg : w.heap.size ≤ g := by have := B.out.size; omega
  have L1 := Lib.hid O1.out.len
  have L2 := Lib.hid O2.out.len
  clear hown hb3 hgrow hg
  go_wp2_with fail
  go_loopw [6, 7, 20] (fun _ _ i wr => ∃ (k : Nat) (us : List Nat), k ≤ m1 ∧ i = .int .i64 k ∧ wr.ownsRow g 30 1 (.slice (some ⟨g, 0, none⟩) N N) N (u32s us) ∧ Below g w2 wr ∧ us.length = N ∧ (∀ z ∈ us, z < 1000000000) ∧
      val 1000000000 us = val 1000000000 (XS.take k) * val 1000000000 YS ∧ (∀ j, k + m2 ≤ j → us.getD j 0 = 0)) (fun _ _ i _ => m1 - (intOf i).toNat)
  case atStart =>
    refine ⟨0, List.replicate N 0, Nat.zero_le _, rfl, W0.out, HB3.out, by simp, ?_, by simp [val_replicate, val], fun j _ => getD_replicate _ _⟩
    intro z hz; rw [List.eq_of_mem_replicate hz]; omega
  case round =>
    obtain ⟨k, us, hk, rfl, hown0, hbw0, hul0, hub0, hval0, hzz0⟩ := hrel
    have HO := Lib.hid hown0
    have HBW := Lib.hid hbw0
    have HUL := Lib.hid hul0
    have HUB := Lib.hid hub0
    have HV := Lib.hid hval0
    have HZ := Lib.hid hzz0
    clear hown0 hbw0 hul0 hub0 hval0 hzz0
    by_cases hlt : k < m1
    · obtain ⟨ad, rfl, hb, hc⟩ := reads_at (hR1.out.below HBW.out) hlt
      have hX1 := getD_lt 1000000000 (by omega) XS GXS.out k
      have hv1 := Lib.hid (val_take_succ 1000000000 XS k)
      generalize XS.getD k 0 = X at hc hX1 hv1
      have hkN : k < N := by omega
      have CC := Lib.hid (addTimes_c g k (N - k) N us A2 m2 c2 YS X wr (by omega) (by omega) (by omega) HO.out (hR2.out.below HBW.out) GYS.out HUB.out hX1 (.inr (HZ.out _ (Nat.le_refl _))))
      go_wp2_with fail
      refine CC.out.mono ?_
      rintro e w4 ⟨us', rfl, hown4, hb4, hul4, hub4, hval4, hzz4⟩
      have HO4 := Lib.hid hown4
      have HB4 := Lib.hid (HBW.out.trans hb4)
      have HUL4 := Lib.hid hul4
      have HUB4 := Lib.hid hub4
      have HV4 := Lib.hid hval4
      have HZ4 := Lib.hid hzz4
      clear hown4 hb4 hul4 hub4 hval4 hzz4 CC
      go_wp2
      go_roundw
      case rel =>
        refine ⟨k + 1, us', by omega, by go_num, HO4.out, HB4.out, HUL4.out, HUB4.out, ?_, fun j hj => ?_⟩
        · rw [HV4.out, HV.out, hv1.out, Nat.add_mul, Nat.mul_assoc]
        · rw [HZ4.out j (by omega), HZ.out j (by omega)]
      case measure => simp [intOf]; omega
    · obtain rfl : k = m1 := by omega
      go_wp2_with fail
      refine (trim_own g N us _ w2 wr HO.out (by omega) HBW.out Hg.out HUB.out HV.out).mono ?_
      rintro e w4 ⟨A4, m4, c4, rfl, ho, hb⟩
      rw [List.take_of_length_le (by rw [L1.out]; exact Nat.le_refl _), E1.out, E2.out] at ho
      have HOO := Lib.hid (ho.weaken hwg)
      have HBB := Lib.hid (B.out.trans (hb.mono hwg))
      clear ho hb
      go_wp2
      go_ret
      exact ⟨A4, m4, c4, rfl, HOO.out, HBB.out⟩
end Go.Proofs.Ythddeiadcecggaa
