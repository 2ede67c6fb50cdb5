import Derived.Test.YtmfcjjjkndfojaaNat3
namespace Go.Proofs.Ytmfcjjjkndfojaa
open Go.RowKit
/-- A round of subtracting. -/
theorem sub_step (b p v P Q X Y br l br' : Nat) (hv : v + Q = P + p * br) (h : X + b * br' = l + Y + br) : v + p * l + (Q + p * Y) = (P + p * X) + p * b * br' := by
  have h1 : p * (X + b * br') = p * (l + Y + br) := by rw [h]
  simp only [Nat.mul_add, ← Nat.mul_assoc] at h1
  omega
theorem sub_last (z y x p br : Nat) (h1 : z + y = x + p * br) (h2 : z < p) (h3 : y ≤ x) (h4 : br ≤ 1) : z = x - y := by
  rcases Nat.eq_zero_or_pos br with h | h
  · subst h; omega
  · obtain rfl : br = 1 := by omega
    omega
theorem sub_less (A A' : Option Addr) (n c n' c' : Nat) (xs ys : List Nat) (w : World) (h : Limbs w A n xs) (h' : Limbs w A' n' ys) (gx : ∀ x ∈ xs, x < 1000000000) (gy : ∀ y ∈ ys, y < 1000000000)
    (hlt : val 1000000000 xs < val 1000000000 ys) :
    Calls Try.prog 39 #[.slice A n c, .slice A' n' c'] w fun e w' => e = .returned (.tuple #[.slice none 0 0, .bool false]) ∧ Below w.heap.size w w' := by
  have HC := Lib.hid ((cmp_c A A' n c n' c' xs ys w h h' gx gy).mono fun e w' ⟨h1, h2⟩ => (⟨h1.trans (by rw [cmpI_of_lt hlt]), h2⟩ : e = Ending.returned (.int .i64 (-1)) ∧ Below w.heap.size w w'))
  clear h h' gx gy hlt
  go_enter Try.func39, Try.ntmps39
  go_wp2_with fail
  refine HC.out.mono ?_
  rintro e w1 ⟨rfl, hb⟩
  go_wp2
  go_ret2
  exact ⟨rfl, hb⟩
set_option maxHeartbeats 800000 in
set_option maxRecDepth 100000 in
theorem sub_geq (A A' : Option Addr) (n c n' c' : Nat) (xs ys : List Nat) (w : World) (h : Limbs w A n xs) (h' : Limbs w A' n' ys) (gx : ∀ x ∈ xs, x < 1000000000) (gy : ∀ y ∈ ys, y < 1000000000)
    (hge : val 1000000000 ys ≤ val 1000000000 xs) (hnn : n ≤ 900000000) :
    Calls Try.prog 39 #[.slice A n c, .slice A' n' c'] w fun e w' => ∃ A1 m1 c1, e = .returned (.tuple #[.slice A1 m1 c1, .bool true]) ∧
      OwnS w' w.heap.size A1 m1 c1 (digs 1000000000 (val 1000000000 xs - val 1000000000 ys)) ∧ Below w.heap.size w w' := by
  obtain ⟨i0, hi, hz0, hz1, hz2⟩ := info_parts u32_info
  have CC := cmp_c A A' n c n' c' xs ys w h h' gx gy
  have hn := h.2.1
  have hn' := h'.2.1
  have hl := Lib.hid h.len
  have hl' := Lib.hid h'.len
  have htx := tz_le xs
  have htxy : tz ys ≤ tz xs := by
    rcases Nat.lt_or_ge (tz xs) (tz ys) with hh | hh
    · have := val_lt_of_tz 1000000000 (by omega) xs ys gx hh; omega
    · exact hh
  rw [hl.out] at htx
  have H := Lib.hid h
  have H' := Lib.hid h'
  have GX := Lib.hid gx
  have GY := Lib.hid gy
  have HGE := Lib.hid hge
  clear h h' gx gy
  obtain ⟨r, hr0, hr⟩ : ∃ r : Int, 0 ≤ r ∧ cmpI (val 1000000000 xs) (val 1000000000 ys) = r := by
    refine ⟨_, ?_, rfl⟩
    rw [cmpI, if_neg (by omega)]
    split <;> omega
  rw [hr] at CC
  have HC := Lib.hid CC
  clear CC hr hge
  generalize hN : tz xs = N at htx htxy
  have HN := Lib.hid hN
  clear hN
  generalize hg0 : w.heap.size = g0 at HC ⊢
  have Hg0 := Lib.hid hg0
  clear hg0
  go_enter Try.func39, Try.ntmps39
  go_wp2_with fail
  refine HC.out.mono ?_
  rintro e w1 ⟨rfl, hbc⟩
  have HB1 := Lib.hid hbc
  clear hbc HC
  have H1 := Lib.hid (H.out.below (by rw [Hg0.out]; exact HB1.out))
  have H1' := Lib.hid (H'.out.below (by rw [Hg0.out]; exact HB1.out))
  have CS := size_c A n c xs w1 H1.out
  rw [HN.out] at CS
  have HCS := Lib.hid CS
  clear CS
  go_wp2_with fail
  refine HCS.out.mono ?_
  rintro e w' ⟨rfl, rfl⟩
  clear HCS
  go_wp2_with (at_make; refine wpList_make_full _ rfl _ _ 22 rfl w1.heap.size 32 i0 (.int .u32 0) 1 Try.underlying22 hi hz0 hz1 _ _ _ _ N rfl rfl rfl rfl ?b2 ?b3 (Nat.le_refl _) ?_)
  case b2 => rw [hz2]; omega
  case b3 => unfold maxLen; omega
  intro w2 hown hgrow
  rw [made_u32] at hown
  have hb2 := Lib.hid ((Below.refl w1.heap.size w1).grown hgrow (Nat.le_refl _) (fun k hk => by cases hk))
  clear hgrow
  go_wp2_with fail
  have W0 := Lib.hid hown
  clear hown
  generalize hg : w1.heap.size = g
  have Hg := Lib.hid hg
  clear hg
  go_loopw [8, 9, 10, 20] (fun bw _ _ i wr => ∃ (k : Nat) (br : Nat) (zs : List Nat), k ≤ N ∧ i = .int .i64 k ∧ bw = .int .u32 (br : Int) ∧ br ≤ 1 ∧
      wr.ownsRow g 32 1 (.slice (some ⟨g, 0, none⟩) N N) N (u32s zs) ∧ Below g w1 wr ∧ zs.length = N ∧ (∀ z ∈ zs, z < 1000000000) ∧
      val 1000000000 (zs.take k) + val 1000000000 (ys.take k) = val 1000000000 (xs.take k) + 1000000000 ^ k * br ∧ (∀ j, k ≤ j → zs.getD j 0 = 0)) (fun _ _ _ i _ => N - (intOf i).toNat)
  case atStart =>
    refine ⟨0, 0, List.replicate N 0, Nat.zero_le _, rfl, rfl, by omega, by rw [← Hg.out]; exact W0.out, by rw [← Hg.out]; exact hb2.out, by simp, ?_, by simp [val], ?_⟩
    · intro z hz; rw [List.eq_of_mem_replicate hz]; omega
    · intro j hj; simp [List.getD, List.getElem?_replicate]; split <;> rfl
  case round =>
    obtain ⟨k, br, zs, hk, rfl, rfl, hbr, hown0, hbw0, hzl0, hzb0, hval0, hzz0⟩ := hrel
    have HO := Lib.hid hown0
    have HBW := Lib.hid hbw0
    have HZL := Lib.hid hzl0
    have HZB := Lib.hid hzb0
    have HV := Lib.hid hval0
    have HZ := Lib.hid hzz0
    have hcell : k < N → wr.cell? ⟨g, k, none⟩ = some (.int .u32 0) := fun hlt => by
      rw [HO.out.cellAt k (by omega), u32s_get, List.getElem?_eq_getElem (by rw [HZL.out]; omega)]
      have := HZ.out k (Nat.le_refl _)
      rw [List.getD, List.getElem?_eq_getElem (by rw [HZL.out]; omega)] at this
      simp at this
      simp [this]
    have hfr : wr.frozen? ⟨g, k, none⟩ = false := HO.out.frozenAt k
    clear hown0 hbw0 hzl0 hzb0 hval0 hzz0
    have HX := Lib.hid (H1.out.below (by rw [Hg.out]; exact HBW.out))
    have HY := Lib.hid (H1'.out.below (by rw [Hg.out]; exact HBW.out))
    by_cases hlt : k < N
    · have hcell := hcell hlt
      have hkn : k < n := by omega
      obtain ⟨ad, rfl, _, hcl, hx⟩ := HX.out.at_ hkn
      have hX1 := getD_lt 1000000000 (by omega) xs GX.out k
      have hY1 := getD_lt 1000000000 (by omega) ys GY.out k
      have CY := fun nq => limbAt_c A' n' c' ys (wr.drewN nq) (k : Int) (by omega) (by omega) HY.out
      have hv1 := val_take_succ 1000000000 xs k
      have hv2 := val_take_succ 1000000000 ys k
      simp only [Int.toNat_natCast] at CY
      generalize hX : xs.getD k 0 = X at hcl hX1 hv1
      generalize hY : ys.getD k 0 = Y at CY hY1 hv2
      have HC2 := Lib.hid CY
      have HV1 := Lib.hid hv1
      have HV2 := Lib.hid hv2
      clear CY hX hY hv1 hv2
      by_cases hbig : (1000000000 : Int) ≤ 1000000000 + (X : Int) - (Y : Int) - (br : Int)
      · go_wp2_with fail
        go_quiet ((go_at_call 40; exact quiet_left (HC2.out _)))
        go_wp2
        go_roundw
        case rel =>
          obtain ⟨l, hll⟩ : ∃ l : Nat, (X : Int) - (Y : Int) - (br : Int) = (l : Int) := ⟨X - Y - br, by omega⟩
          have hl0 : l < 1000000000 := by omega
          have hlI : 1000000000 + (X : Int) - (Y : Int) - (br : Int) - 1000000000 = (l : Int) := by omega
          refine ⟨k + 1, 0, zs.set k l, by omega, by go_num, rfl, by omega, ?_, (HBW.out.of_drewN _).setCell (Nat.le_refl _) _, by simpa using HZL.out, ?_, ?_, ?_⟩
          · rw [u32s_set, hlI]
            exact (World.ownsRow.stored (w := wr.drewN nq) HO.out k _).1
          · intro z hz
            rcases List.mem_or_eq_of_mem_set hz with hz | hz
            · exact HZB.out z hz
            · rw [hz]; exact hl0
          · rw [val_take_set _ _ _ _ (by rw [HZL.out]; omega), HV1.out, HV2.out]
            exact sub_step _ _ _ _ _ X Y br l 0 HV.out (by omega)
          · intro j hj
            rw [List.getD, List.getElem?_set_ne (by omega)]
            exact HZ.out j (by omega)
        case measure => simp [intOf]; omega
      · have hsm : 1000000000 + (X : Int) - (Y : Int) - (br : Int) < 1000000000 := by omega
        have hd : decide ((1000000000 : Int) ≤ 1000000000 + (X : Int) - (Y : Int) - (br : Int)) = false := by simp; omega
        clear hbig
        go_wp2_with fail
        go_quiet ((go_at_call 40; exact quiet_left (HC2.out _)))
        go_wp2
        go_roundw
        case rel =>
          obtain ⟨l, hll⟩ : ∃ l : Nat, 1000000000 + (X : Int) - (Y : Int) - (br : Int) = (l : Int) := ⟨1000000000 + X - Y - br, by omega⟩
          have hl0 : l < 1000000000 := by omega
          refine ⟨k + 1, 1, zs.set k l, by omega, by go_num, rfl, by omega, ?_, (HBW.out.of_drewN _).setCell (Nat.le_refl _) _, by simpa using HZL.out, ?_, ?_, ?_⟩
          · rw [u32s_set, ← hll]
            exact (World.ownsRow.stored (w := wr.drewN nq) HO.out k _).1
          · intro z hz
            rcases List.mem_or_eq_of_mem_set hz with hz | hz
            · exact HZB.out z hz
            · rw [hz]; exact hl0
          · rw [val_take_set _ _ _ _ (by rw [HZL.out]; omega), HV1.out, HV2.out]
            exact sub_step _ _ _ _ _ X Y br l 1 HV.out (by omega)
          · intro j hj
            rw [List.getD, List.getElem?_set_ne (by omega)]
            exact HZ.out j (by omega)
        case measure => simp [intOf]; omega
    · obtain rfl : k = N := by omega
      clear hcell
      go_wp2_with fail
      have hlim : OwnS wr g (some ⟨g, 0, none⟩) k k zs := ⟨HO.out, by omega, fun z hz => by have := HZB.out z hz; omega⟩
      have hfin : trim zs = digs 1000000000 (val 1000000000 xs - val 1000000000 ys) := by
        rw [trim_eq_digs 1000000000 (by omega) _ HZB.out]
        congr 1
        have e1 := HV.out
        have e2 := val_lt 1000000000 zs HZB.out
        rw [List.take_of_length_le (by rw [HZL.out]; exact Nat.le_refl _), val_take_all _ xs k (by have := HN.out; omega), val_take_all _ ys k (by omega)] at e1
        rw [HZL.out] at e2
        have e3 := HGE.out
        exact sub_last _ _ _ _ _ e1 e2 e3 hbr
      refine (trim_c _ _ _ zs _ hlim.limbs (by omega)).mono ?_
      rintro e w' ⟨A1, m1, c1, rfl, ho1, hb1⟩
      have hsz0 : g0 ≤ g := by have e := Hg.out; have e' := Hg0.out; have := HB1.out.size; omega
      have hsz : g ≤ wr.heap.size := by have := HBW.out.size; have e := Hg.out; omega
      have HF1 := Lib.hid (ho1.weaken (Nat.le_trans hsz0 hsz))
      have HF2 := Lib.hid (HB1.out.trans ((HBW.out.trans (hb1.mono hsz)).mono hsz0))
      have HF3 := Lib.hid hfin
      clear ho1 hb1 hfin hlim
      go_wp2
      go_ret2
      exact ⟨A1, m1, c1, rfl, by rw [← HF3.out]; exact HF1.out, HF2.out⟩
end Go.Proofs.Ytmfcjjjkndfojaa
