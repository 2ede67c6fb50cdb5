import Derived.Test.YtmfcjjjkndfojaaDiv2
import Derived.Test.YtmfcjjjkndfojaaDivMath2
namespace Go.Proofs.Ytmfcjjjkndfojaa
open Go.RowKit
set_option maxHeartbeats 1000000 in
theorem guess_c (A A' : Option Addr) (n c n' c' : Nat) (xs ys : List Nat) (w : World) (h : Limbs w A n xs) (h' : Limbs w A' n' ys) (gx : ∀ x ∈ xs, x < 1000000000) (gy : ∀ y ∈ ys, y < 1000000000)
    (hn : n ≤ 900000000) (hn' : n' ≤ 900000000) (hn0 : 0 < n') (hL : ys.getD (n' - 1) 0 ≠ 0) (hlt : val 1000000000 xs < 1000000000 * val 1000000000 ys) :
    Calls Try.prog 38 #[.slice A n c, .slice A' n' c'] w fun e w' => e = .returned (.int .u32 ((min (val 1000000000 xs / 1000000000 ^ (n' - 1) / ys.getD (n' - 1) 0) 999999999 : Nat) : Int)) ∧ w = w' := by
  have hl := Lib.hid h.len
  have hl' := Lib.hid h'.len
  obtain ⟨last, rfl⟩ : ∃ k, n' = k + 1 := ⟨n' - 1, by omega⟩
  rw [Nat.add_sub_cancel] at hL ⊢
  have hy := val_lt 1000000000 ys gy
  rw [hl'.out] at hy
  have htop : val 1000000000 xs / 1000000000 ^ last < 1000000000000000000 := by
    rw [Nat.div_lt_iff_lt_mul (Nat.pow_pos (by omega))]
    rw [Nat.pow_succ] at hy
    omega
  have htops : ∀ k, last ≤ k → val 1000000000 (xs.drop k) < 1000000000000000000 := fun k hk => by
    rw [val_drop gx]
    refine Nat.lt_of_le_of_lt (Nat.div_le_div_left (Nat.pow_le_pow_right (by omega) hk) (Nat.pow_pos (by omega))) htop
  obtain ⟨ad', rfl, _, hc', hLb⟩ := h'.at_ (k := last) (by omega)
  have hL1 : 1 ≤ ys.getD last 0 := by omega
  have e0 := Lib.hid (val_drop gx last)
  rw [← e0.out]
  generalize ys.getD last 0 = L at *
  have H := Lib.hid h
  have HT := Lib.hid htops
  clear h h' gx gy hlt hy htop htops hl' hL
  go_enter Try.func38, Try.ntmps38
  go_wp2
  go_loop [6, 7] (fun hi i => ∃ (k : Nat) (z : Int) (T : Nat), z = (k : Int) - 1 ∧ i = .int .i64 z ∧ hi = .int .u64 (T : Int) ∧ T = val 1000000000 (xs.drop k) ∧ (k ≤ n ∧ (last ≤ k ∨ k = n))) (fun _ i => (intOf i + 1).toNat)
  case atStart => exact ⟨n, _, 0, rfl, by go_num, rfl, by rw [List.drop_eq_nil_of_le (by rw [hl.out]; exact Nat.le_refl _)]; rfl, Nat.le_refl _, .inr rfl⟩
  case round =>
    obtain ⟨k, z, T, hz, rfl, rfl, hT0, hk, hor⟩ := hrel
    have HTV := Lib.hid hT0
    clear hT0
    by_cases hge : last < k
    · obtain ⟨k, rfl⟩ : ∃ j, k = j + 1 := ⟨k - 1, by omega⟩
      obtain rfl : z = (k : Int) := by omega
      obtain ⟨ad, rfl, _, hc, hX⟩ := H.out.at_ (k := k) (by omega)
      have hT1 := HT.out k (by omega)
      have hd := val_drop_succ (xs := xs) (k := k) (by rw [hl.out]; omega)
      rw [← HTV.out] at hd
      rw [hd] at hT1
      generalize xs.getD k 0 = X at *
      have HD := Lib.hid hd
      have hTb : T ≤ 18000000000 := by omega
      clear hz hor hd
      go_wp2
      go_round
      case rel => exact ⟨k, _, T * 1000000000 + X, rfl, rfl, by go_num, HD.out.symm, by omega, .inl (by omega)⟩
      case measure => simp [intOf]
    · have hTl : T = val 1000000000 (xs.drop last) := by
        rw [HTV.out]
        rcases Nat.lt_or_ge k last with h1 | h1
        · rw [List.drop_eq_nil_of_le (by rw [hl.out]; omega), List.drop_eq_nil_of_le (by rw [hl.out]; omega)]
        · rw [show k = last by omega]
      have hT1 := HT.out last (Nat.le_refl _)
      rw [← hTl] at hT1
      have HTL := Lib.hid hTl
      have hzl : z < (last : Int) := by omega
      clear hz hor hTl HTV
      go_wp2
      go_ret
      refine ⟨?_, rfl⟩
      refine (ret_int ?_ : Ending.returned (.int .u32 (min (IntKind.u64.wrap ((T : Int) / (L : Int))) 999999999 % 4294967296)) = _)
      rw [← HTL.out]
      have hq : T / L ≤ T := Nat.div_le_self T L
      rw [IntWalk.up_div rfl rfl]
      generalize T / L = Q at *
      rw [IntWalk.u64_in _ (by omega)]
      omega
set_option maxHeartbeats 1000000 in
set_option maxRecDepth 100000 in
theorem step_c (A A' : Option Addr) (n c n' c' : Nat) (xs ys : List Nat) (w : World) (h : Limbs w A n xs) (h' : Limbs w A' n' ys) (gx : ∀ x ∈ xs, x < 1000000000) (gy : ∀ y ∈ ys, y < 1000000000)
    (hn : n ≤ 900000000) (hn' : n' ≤ 800000000) (hn0 : 0 < n') (hL : ys.getD (n' - 1) 0 ≠ 0) (hlt : val 1000000000 xs < 1000000000 * val 1000000000 ys) :
    Calls Try.prog 33 #[.slice A n c, .slice A' n' c'] w fun e w' => ∃ A1 m1 c1, e = .returned (.tuple #[.int .u32 ((val 1000000000 xs / val 1000000000 ys : Nat) : Int), .slice A1 m1 c1]) ∧
      OwnS w' w.heap.size A1 m1 c1 (digs 1000000000 (val 1000000000 xs % val 1000000000 ys)) ∧ Below w.heap.size w w' := by
  have hl' := Lib.hid h'.len
  have hp := pow_le_val h'.len hn0 hL gy
  have hLb : ys.getD (n' - 1) 0 * 1000000000 ^ (n' - 1) ≤ val 1000000000 ys := by
    have h1 := val_drop_succ (xs := ys) (k := n' - 1) (by rw [hl'.out]; omega)
    rw [val_drop gy] at h1
    refine Nat.le_trans (Nat.mul_le_mul_right _ ?_) (Nat.div_mul_le_self _ (1000000000 ^ (n' - 1)))
    omega
  have hge := guess_ge hLb (by omega) hlt
  have hpos : 0 < val 1000000000 ys := Nat.lt_of_lt_of_le (Nat.pow_pos (by omega)) hp
  have CG := guess_c A A' n c n' c' xs ys w h h' gx gy hn (by omega) hn0 hL hlt
  have hgm : min (val 1000000000 xs / 1000000000 ^ (n' - 1) / ys.getD (n' - 1) 0) 999999999 ≤ 999999999 := Nat.min_le_right _ _
  generalize min (val 1000000000 xs / 1000000000 ^ (n' - 1) / ys.getD (n' - 1) 0) 999999999 = G at *
  have H := Lib.hid h
  have H' := Lib.hid h'
  have GX := Lib.hid gx
  have GY := Lib.hid gy
  have HG := Lib.hid CG
  have HGE := Lib.hid hge
  have HPOS := Lib.hid hpos
  clear h h' gx gy CG hge hpos hp hLb hL hlt
  go_enter Try.func33, Try.ntmps33
  go_wp2_with fail
  refine HG.out.mono ?_
  rintro e w' ⟨rfl, rfl⟩
  clear HG
  go_wp2_with fail
  refine (small_c A' n' c' ys G 0 w H'.out GY.out (by omega) (by omega) (by omega)).mono ?_
  rintro e w1 ⟨A1, m1, c1, rfl, ho, hb⟩
  rw [Nat.add_zero] at ho
  have HO1 := Lib.hid ho
  have HB1 := Lib.hid hb
  clear ho hb
  go_wp2_with fail
  generalize hg : w.heap.size = g at *
  have Hg := Lib.hid hg
  clear hg
  go_loopw [4, 6, 19] (fun t p _ wr => ∃ (k m2 c2 : Nat) (A2 : Option Addr), t = .int .u32 (k : Int) ∧ k ≤ 999999999 ∧ val 1000000000 xs / val 1000000000 ys ≤ k ∧ p = .slice A2 m2 c2 ∧
      Hid (OwnS wr g A2 m2 c2 (digs 1000000000 (val 1000000000 ys * k))) ∧ Hid (Below g w wr)) (fun t _ _ _ => (intOf t).toNat)
  case atStart => exact ⟨G, m1, c1, A1, rfl, hgm, HGE.out, rfl, HO1, HB1⟩
  case round =>
    obtain ⟨k, m2, c2, A2, rfl, hk, hqk, rfl, HO, HB⟩ := hrel
    have HQ := Lib.hid hqk
    clear hqk
    have HX := Lib.hid (H.out.below (by rw [Hg.out]; exact HB.out))
    have HY := Lib.hid (H'.out.below (by rw [Hg.out]; exact HB.out))
    have hm2 : m2 ≤ 900000000 := by
      rw [← HO.out.len]
      refine Nat.le_trans (digs_len9' (k := n' + 1) ?_) (by omega)
      have h1 := val_lt 1000000000 ys GY.out
      rw [hl'.out] at h1
      rw [Nat.pow_succ]
      exact Nat.mul_lt_mul'' h1 (by omega)
    have CC := cmp_c A2 A m2 c2 n c _ xs wr HO.out.limbs HX.out (digs_lt 1000000000 (by omega) _) GX.out
    rw [val_digs 1000000000 (by omega)] at CC
    by_cases hgt : val 1000000000 xs < val 1000000000 ys * k
    · have hc1 : cmpI (val 1000000000 ys * k) (val 1000000000 xs) = 1 := by rw [cmpI, if_neg (by omega), if_pos hgt]
      rw [hc1] at CC
      have HCC := Lib.hid CC
      have HGT := Lib.hid hgt
      have hk0 : 0 < k := by
        rcases Nat.eq_zero_or_pos k with h0 | h0
        · rw [h0, Nat.mul_zero] at hgt; omega
        · exact h0
      have hqk2 : val 1000000000 xs / val 1000000000 ys ≤ k - 1 := by
        have : val 1000000000 xs / val 1000000000 ys < k := by rw [Nat.div_lt_iff_lt_mul HPOS.out, Nat.mul_comm]; exact hgt
        omega
      have HQ2 := Lib.hid hqk2
      clear CC hgt hc1 hqk2 HQ
      go_wp2_with fail
      refine HCC.out.mono ?_
      rintro e w2 ⟨rfl, hb⟩
      have hbg : g ≤ wr.heap.size := by have := HB.out.size; have := Hg.out; omega
      have HO2 := Lib.hid (HO.out.keep hb rfl)
      have HB2 := Lib.hid (HB.out.trans (hb.mono hbg))
      have HY2 := Lib.hid (HY.out.below hb)
      clear hb HCC
      have hle : val 1000000000 ys ≤ val 1000000000 (digs 1000000000 (val 1000000000 ys * k)) := by
        rw [val_digs 1000000000 (by omega)]; exact Nat.le_mul_of_pos_right _ hk0
      have CS := sub_geq A2 A' m2 c2 n' c' _ ys w2 HO2.out.limbs HY2.out (digs_lt 1000000000 (by omega) _) GY.out hle hm2
      rw [val_digs 1000000000 (by omega), show val 1000000000 ys * k - val 1000000000 ys = val 1000000000 ys * (k - 1) by rw [Nat.mul_sub, Nat.mul_one]] at CS
      have HCS := Lib.hid CS
      clear CS hle
      go_wp2_with fail
      refine HCS.out.mono ?_
      rintro e w3 ⟨A3, m3, c3, rfl, ho, hb⟩
      have hbg2 : g ≤ w2.heap.size := by have := HB2.out.size; have := Hg.out; omega
      have HO3 := Lib.hid (ho.weaken hbg2)
      have HB3 := Lib.hid (HB2.out.trans (hb.mono hbg2))
      clear ho hb HCS
      go_wp2
      go_roundw
      case rel => exact ⟨k - 1, m3, c3, A3, by go_num, by omega, HQ2.out, rfl, HO3, HB3⟩
      case measure => simp [intOf]; omega
    · have hkq : k = val 1000000000 xs / val 1000000000 ys := by
        have : k ≤ val 1000000000 xs / val 1000000000 ys := by rw [Nat.le_div_iff_mul_le HPOS.out, Nat.mul_comm]; omega
        have := HQ.out
        omega
      obtain ⟨r, hr0, hr⟩ : ∃ r : Int, r ≤ 0 ∧ cmpI (val 1000000000 ys * k) (val 1000000000 xs) = r := by
        refine ⟨_, ?_, rfl⟩
        unfold cmpI
        split <;> first | omega | (split <;> omega)
      rw [hr] at CC
      have hle : val 1000000000 (digs 1000000000 (val 1000000000 ys * k)) ≤ val 1000000000 xs := by rw [val_digs 1000000000 (by omega)]; omega
      have HCC := Lib.hid CC
      have HKQ := Lib.hid hkq
      have HLE := Lib.hid hle
      clear CC hgt hr hkq hle
      go_wp2_with fail
      refine HCC.out.mono ?_
      rintro e w2 ⟨rfl, hb⟩
      have hbg : g ≤ wr.heap.size := by have := HB.out.size; have := Hg.out; omega
      have HO2 := Lib.hid (HO.out.keep hb rfl)
      have HB2 := Lib.hid (HB.out.trans (hb.mono hbg))
      have HX2 := Lib.hid (HX.out.below hb)
      clear hb HCC
      have CS := sub_geq A A2 n c m2 c2 xs _ w2 HX2.out HO2.out.limbs GX.out (digs_lt 1000000000 (by omega) _) HLE.out hn
      rw [val_digs 1000000000 (by omega), show val 1000000000 xs - val 1000000000 ys * k = val 1000000000 xs % val 1000000000 ys by rw [HKQ.out]; have := Nat.div_add_mod (val 1000000000 xs) (val 1000000000 ys); omega] at CS
      have HCS := Lib.hid CS
      clear CS
      go_wp2_with fail
      refine HCS.out.mono ?_
      rintro e w3 ⟨A3, m3, c3, rfl, ho, hb⟩
      have hbg2 : g ≤ w2.heap.size := by have := HB2.out.size; have := Hg.out; omega
      have HO3 := Lib.hid (ho.weaken hbg2)
      have HB3 := Lib.hid (HB2.out.trans (hb.mono hbg2))
      clear ho hb HCS
      go_wp2
      go_ret2
      exact ⟨A3, m3, c3, by rw [← HKQ.out]; rfl, by rw [Hg.out]; exact HO3.out, by rw [Hg.out]; exact HB3.out⟩
end Go.Proofs.Ytmfcjjjkndfojaa
