/-
  KC: Nat1, Nat2, Nat3, Nat4, Mul1, Mul2.
-/
import Derived.Test.YtkfjombeaidimaaDoorKA
/- Nat1 -/
set_option maxRecDepth 100000
namespace Go.Proofs.YtkfjombeaidimaaDoor
open Go.RowKit
set_option maxHeartbeats 400000 in
theorem size_c (A : Option Addr) (n c : Nat) (xs : List Nat) (w : World) (h : Limbs w A n xs) :
    Calls Tryd.prog 58 #[.slice A n c] w fun e w' => e = .returned (.int .i64 (tz xs : Nat)) ∧ w = w' := by
  have hn := h.2.1
  have hl := Lib.hid h.len
  have H := Lib.hid h
  clear h
  go_enter Tryd.func58, Tryd.ntmps58
  go_wp2
  go_loop [3] (fun i => ∃ k : Nat, k ≤ n ∧ i = .int .i64 k ∧ ∀ j, k ≤ j → xs.getD j 0 = 0) (fun i => (intOf i).toNat)
  case atStart => exact ⟨n, Nat.le_refl _, rfl, fun j hj => by rw [List.getD, List.getElem?_eq_none (by rw [hl.out]; exact hj)]; rfl⟩
  case round =>
    obtain ⟨k, hk, rfl, hall0⟩ := hrel
    have hall := Lib.hid hall0
    clear hall0
    rcases k with _ | k
    · go_wp2
      go_ret
      refine ⟨?_, rfl⟩
      rw [tz_eq xs 0 hall.out (fun h => absurd h (by omega))]
      rfl
    · obtain ⟨ad, rfl, hb, hc, hx⟩ := H.out.at_ (k := k) (by omega)
      go_wp2
      · have hz : ((xs[k]?.getD 0 : Nat) : Int) == 0 := by assumption
        go_round
        case rel =>
          refine ⟨k, by omega, rfl, fun j hj => ?_⟩
          rcases Nat.eq_or_lt_of_le hj with rfl | hj
          · rw [List.getD]; simpa using hz
          · exact hall.out j hj
        case measure => simp [intOf]
      · have hz : (((xs[k]?.getD 0 : Nat) : Int) == 0) = false := by assumption
        go_ret
        refine ⟨?_, rfl⟩
        rw [tz_eq xs (k + 1) hall.out (fun _ => by rw [List.getD]; simpa using hz)]
        rfl
set_option maxHeartbeats 400000 in
theorem limbAt_c (A : Option Addr) (n c : Nat) (xs : List Nat) (w : World) (i : Int) (hi : 0 ≤ i) (hi2 : i ≤ 2000000000) (h : Limbs w A n xs) :
    Calls Tryd.prog 59 #[.slice A n c, .int .i64 i] w fun e w' => e = .returned (.int .u32 (xs.getD i.toNat 0 : Nat)) ∧ w = w' := by
  obtain ⟨k, rfl⟩ := Int.eq_ofNat_of_zero_le hi
  rw [Int.toNat_natCast]
  have hn := h.2.1
  have hl := Lib.hid h.len
  by_cases hlt : k < n
  · obtain ⟨ad, rfl, hb, hc, hx⟩ := h.at_ hlt
    have H := Lib.hid h
    clear h
    go_enter Tryd.func59, Tryd.ntmps59
    go_wp2
    go_ret
    exact ⟨rfl, rfl⟩
  · have H := Lib.hid h
    clear h
    go_enter Tryd.func59, Tryd.ntmps59
    go_wp2
    go_ret
    refine ⟨?_, rfl⟩
    rw [List.getD, List.getElem?_eq_none (by rw [hl.out]; omega)]
    rfl
set_option maxHeartbeats 400000 in
theorem compareInt_c (x y : Int) (w : World) :
    Calls Tryd.prog 57 #[.int .i64 x, .int .i64 y] w fun e w' => e = .returned (.int .i64 (if x < y then -1 else if y < x then 1 else 0)) ∧ w = w' := by
  rcases Int.lt_trichotomy x y with h | h | h
  · rw [if_pos h]
    go_enter Tryd.func57, Tryd.ntmps57
    go_wp2
    go_ret
    exact ⟨rfl, rfl⟩
  · subst h
    rw [if_neg (by omega), if_neg (by omega)]
    go_enter Tryd.func57, Tryd.ntmps57
    go_wp2
    go_ret
    exact ⟨rfl, rfl⟩
  · rw [if_neg (by omega), if_pos h]
    go_enter Tryd.func57, Tryd.ntmps57
    go_wp2
    go_ret
    exact ⟨rfl, rfl⟩
set_option maxHeartbeats 400000 in
theorem trim_c (A : Option Addr) (n c : Nat) (xs : List Nat) (w : World) (h : Limbs w A n xs) (hn : n ≤ 1000000000) :
    Calls Tryd.prog 54 #[.slice A n c] w fun e w' => ∃ A' m c', e = .returned (.slice A' m c') ∧ OwnS w' w.heap.size A' m c' (trim xs) ∧ Below w.heap.size w w' := by
  obtain ⟨i0, hi, hz0, hz1, hz2⟩ := info_parts u32_info
  have hl := Lib.hid h.len
  have htz := tz_le xs
  rw [hl.out] at htz
  have H := Lib.hid h
  clear h
  go_enter Tryd.func54, Tryd.ntmps54
  go_wp2_with fail
  refine (size_c A n c xs w H.out).mono ?_
  rintro e w' ⟨rfl, rfl⟩
  go_wp2_with (at_make; refine wpList_make_full _ rfl _ _ 57 rfl w.heap.size 62 i0 (.int .u32 0) 1 Tryd.underlying57 hi hz0 hz1 _ _ _ _ (tz xs) rfl rfl rfl rfl ?b2 ?b3 (Nat.le_refl _) ?_)
  case b2 => rw [hz2]; omega
  case b3 => unfold maxLen; omega
  intro w1 hown hgrow
  rw [made_u32] at hown
  have hb1 : Below w.heap.size w w1 := (Below.refl _ _).grown hgrow (Nat.le_refl _) (fun k hk => by cases hk)
  have H1 := Lib.hid (H.out.below hb1)
  have HB := Lib.hid (own_blk hown)
  clear hown hgrow
  go_wp2_with (refine wpList_copy_splice rfl (.tmp 7) (.tmp 8) _ _ rfl 62 Tryd.underlying57 (by rw [hi]; simp [hz1]) _ A _ (tz xs) n c rfl rfl w.heap.size 0 (u32s (List.replicate (tz xs) 0)) 62 HB.out.1 (u32s (xs.take (tz xs))) ?c1 ?c2 ?c3 (u32_one _) w.heap.size w hb1 (Nat.le_refl _) ?_)
  case c1 => simp only [u32s_length, List.length_take, hl.out]; exact Nat.min_comm _ _
  case c2 =>
    intro hp
    obtain ⟨ad, e1, hb, hcell⟩ := H1.out.1.2 (by simp [u32s_length, hl.out] at hp; omega)
    refine ⟨ad, e1, fun j v hv => hcell j v ?_⟩
    rw [u32s_get] at hv ⊢
    rw [List.getElem?_take] at hv
    split at hv
    · exact hv
    · simp at hv
  case c3 => simp [u32s_length, hl.out]; omega
  intro w2 hh hb2
  rw [splice_all _ _ (by simp [u32s_length, hl.out]; omega)] at hh
  go_wp2
  go_ret
  refine ⟨_, _, _, rfl, ⟨?_, by omega, fun x hx => H.out.2.2 x (List.mem_of_mem_take hx)⟩, hb2⟩
  exact own_of_blk hh.out (Nat.le_refl _) (by simp [u32s_length, trim_length]) (by unfold maxLen; omega)
end Go.Proofs.YtkfjombeaidimaaDoor
/- Nat2 -/
namespace Go.Proofs.YtkfjombeaidimaaDoor
open Go.RowKit
/-- What Cmp answers. -/
def cmpI (a b : Nat) : Int := if a < b then -1 else if b < a then 1 else 0
theorem cmpI_of_lt {a b : Nat} (h : a < b) : cmpI a b = -1 := by simp [cmpI, h]
theorem cmpI_of_gt {a b : Nat} (h : b < a) : cmpI a b = 1 := by rw [cmpI, if_neg (by omega), if_pos h]
theorem cmpI_of_eq {a b : Nat} (h : a = b) : cmpI a b = 0 := by rw [cmpI, if_neg (by omega), if_neg (by omega)]
end Go.Proofs.YtkfjombeaidimaaDoor
/- Nat3 -/
namespace Go.Proofs.YtkfjombeaidimaaDoor
open Go.RowKit
/-- One figure written at place i. -/
theorem val_take_set (b : Nat) (ys : List Nat) (i x : Nat) (h : i < ys.length) : val b ((ys.set i x).take (i + 1)) = val b (ys.take i) + b ^ i * x := by
  rw [val_take_succ]
  simp [List.getD, h, List.take_set_of_le]
theorem u32s_set (ys : List Nat) (i x : Nat) : u32s (ys.set i x) = (u32s ys).set i (.int .u32 (x : Int)) := by simp [u32s, List.map_set]
/-- A round of adding. -/
theorem add_step (b p v P Q X Y cr l cr' : Nat) (hv : v + p * cr = P + Q) (h : X + Y + cr = l + b * cr') : v + p * l + p * b * cr' = (P + p * X) + (Q + p * Y) := by
  have h1 : p * (X + Y + cr) = p * (l + b * cr') := by rw [h]
  simp only [Nat.mul_add, ← Nat.mul_assoc] at h1
  omega
set_option maxHeartbeats 800000 in
set_option maxRecDepth 100000 in
theorem add_c (A A' : Option Addr) (n c n' c' : Nat) (xs ys : List Nat) (w : World) (h : Limbs w A n xs) (h' : Limbs w A' n' ys) (gx : ∀ x ∈ xs, x < 1000000000) (gy : ∀ y ∈ ys, y < 1000000000)
    (hnn : n ≤ 900000000) (hnn' : n' ≤ 900000000) :
    Calls Tryd.prog 46 #[.slice A n c, .slice A' n' c'] w fun e w' => ∃ A1 m1 c1, e = .returned (.slice A1 m1 c1) ∧
      OwnS w' w.heap.size A1 m1 c1 (digs 1000000000 (val 1000000000 xs + val 1000000000 ys)) ∧ Below w.heap.size w w' := by
  obtain ⟨i0, hi, hz0, hz1, hz2⟩ := info_parts u32_info
  have hl := Lib.hid h.len
  have hl' := Lib.hid h'.len
  have htx := tz_le xs
  have hty := tz_le ys
  rw [hl.out] at htx
  rw [hl'.out] at hty
  have H := Lib.hid h
  have H' := Lib.hid h'
  have GX := Lib.hid gx
  have GY := Lib.hid gy
  clear h h' gx gy
  obtain ⟨N, hN⟩ : ∃ N : Nat, N = max (tz xs) (tz ys) := ⟨_, rfl⟩
  have hN1 : N ≤ 900000000 := by omega
  have hNx : tz xs ≤ N := by omega
  have hNy : tz ys ≤ N := by omega
  have HN := Lib.hid (show max ((tz xs : Nat) : Int) ((tz ys : Nat) : Int) = (N : Int) by omega)
  clear hN
  go_enter Tryd.func46, Tryd.ntmps46
  go_wp2_with fail
  refine (size_c A n c xs w H.out).mono ?_
  rintro e w' ⟨rfl, rfl⟩
  go_wp2_with fail
  refine (size_c A' n' c' ys w H'.out).mono ?_
  rintro e w' ⟨rfl, rfl⟩
  go_wp2_with (at_make; refine wpList_make_full _ rfl _ _ 57 rfl w.heap.size 62 i0 (.int .u32 0) 1 Tryd.underlying57 hi hz0 hz1 _ _ _ _ (N + 1) rfl rfl ?b0 ?b1 ?b2 ?b3 (Nat.le_refl _) ?_)
  case b0 => have := HN.out; omega
  case b1 => have := HN.out; omega
  case b2 => rw [hz2]; omega
  case b3 => unfold maxLen; omega
  rw [HN.out]
  intro w1 hown hgrow
  rw [made_u32] at hown
  have hb1 : Below w.heap.size w w1 := (Below.refl _ _).grown hgrow (Nat.le_refl _) (fun k hk => by cases hk)
  clear hgrow
  go_wp2_with fail
  have W0 := Lib.hid hown
  have hb1' := Lib.hid hb1
  clear hown hb1
  generalize hg : w.heap.size = g
  have Hg := Lib.hid hg
  clear hg
  go_loopw [7, 8, 9, 19] (fun cy _ _ i wr => ∃ (k : Nat) (cr : Nat) (zs : List Nat), k ≤ N ∧ i = .int .i64 k ∧ cy = .int .u32 (cr : Int) ∧ cr ≤ 1 ∧
      wr.ownsRow g 62 1 (.slice (some ⟨g, 0, none⟩) (N + 1) (N + 1)) (N + 1) (u32s zs) ∧ Below g w wr ∧ zs.length = N + 1 ∧ (∀ z ∈ zs, z < 1000000000) ∧
      val 1000000000 (zs.take k) + 1000000000 ^ k * cr = val 1000000000 (xs.take k) + val 1000000000 (ys.take k) ∧ (∀ j, k ≤ j → zs.getD j 0 = 0)) (fun _ _ _ i _ => N - (intOf i).toNat)
  case atStart =>
    refine ⟨0, 0, List.replicate (N + 1) 0, Nat.zero_le _, rfl, rfl, by omega, by rw [← Hg.out]; exact W0.out, by rw [← Hg.out]; exact hb1'.out, by simp, ?_, by simp [val], ?_⟩
    · intro z hz; rw [List.eq_of_mem_replicate hz]; omega
    · intro j hj; simp [List.getD, List.getElem?_replicate]; split <;> rfl
  case round =>
    obtain ⟨k, cr, zs, hk, rfl, rfl, hcr, hown0, hbw0, hzl0, hzb0, hval0, hzz0⟩ := hrel
    have HO := Lib.hid hown0
    have HBW := Lib.hid hbw0
    have HZL := Lib.hid hzl0
    have HZB := Lib.hid hzb0
    have HV := Lib.hid hval0
    have HZ := Lib.hid hzz0
    have hcell : k < N + 1 → wr.cell? ⟨g, k, none⟩ = some (.int .u32 0) := fun hlt => by
      rw [HO.out.cellAt k (by omega), u32s_get, List.getElem?_eq_getElem (by rw [HZL.out]; omega)]
      have := HZ.out k (Nat.le_refl _)
      rw [List.getD, List.getElem?_eq_getElem (by rw [HZL.out]; omega)] at this
      simp at this
      simp [this]
    have hfr : wr.frozen? ⟨g, k, none⟩ = false := HO.out.frozenAt k
    clear hown0 hbw0 hzl0 hzb0 hval0 hzz0
    have HX := Lib.hid (H.out.below (by rw [Hg.out]; exact HBW.out))
    have HY := Lib.hid (H'.out.below (by rw [Hg.out]; exact HBW.out))
    by_cases hlt : k < N
    · have hcell := hcell (by omega)
      have hX1 := getD_lt 1000000000 (by omega) xs GX.out k
      have hY1 := getD_lt 1000000000 (by omega) ys GY.out k
      have CX := limbAt_c A n c xs wr (k : Int) (by omega) (by omega) HX.out
      have CY := limbAt_c A' n' c' ys wr (k : Int) (by omega) (by omega) HY.out
      have hv1 := val_take_succ 1000000000 xs k
      have hv2 := val_take_succ 1000000000 ys k
      rw [Int.toNat_natCast] at CX CY
      generalize hX : xs.getD k 0 = X at CX hX1 hv1
      generalize hY : ys.getD k 0 = Y at CY hY1 hv2
      have HC1 := Lib.hid CX
      have HC2 := Lib.hid CY
      have HV1 := Lib.hid hv1
      have HV2 := Lib.hid hv2
      clear CX CY hX hY hv1 hv2
      by_cases hbig : (1000000000 : Int) ≤ (X : Int) + (Y : Int) + (cr : Int)
      · go_wp2_with fail
        refine HC1.out.mono ?_
        rintro e w' ⟨rfl, rfl⟩
        go_wp2_with fail
        refine HC2.out.mono ?_
        rintro e w' ⟨rfl, rfl⟩
        go_wp2
        go_roundw
        case rel =>
          obtain ⟨l, hll⟩ : ∃ l : Nat, X + Y + cr = l + 1000000000 := ⟨X + Y + cr - 1000000000, by omega⟩
          have hl0 : l < 1000000000 := by omega
          have hlI : (X : Int) + (Y : Int) + (cr : Int) - 1000000000 = (l : Int) := by omega
          refine ⟨k + 1, 1, zs.set k l, by omega, by go_num, rfl, by omega, ?_, HBW.out.setCell (Nat.le_refl _) _, by simpa using HZL.out, ?_, ?_, ?_⟩
          · rw [u32s_set, hlI]
            exact (HO.out.stored k _).1
          · intro z hz
            rcases List.mem_or_eq_of_mem_set hz with hz | hz
            · exact HZB.out z hz
            · rw [hz]; exact hl0
          · rw [val_take_set _ _ _ _ (by rw [HZL.out]; omega), HV1.out, HV2.out]
            exact add_step _ _ _ _ _ X Y cr l 1 HV.out (by omega)
          · intro j hj
            rw [List.getD, List.getElem?_set_ne (by omega)]
            exact HZ.out j (by omega)
        case measure => simp [intOf]; omega
      · have hsm : (X : Int) + (Y : Int) + (cr : Int) < 1000000000 := by omega
        have hd : decide ((1000000000 : Int) ≤ (X : Int) + (Y : Int) + (cr : Int)) = false := by simp; omega
        clear hbig
        go_wp2_with fail
        refine HC1.out.mono ?_
        rintro e w' ⟨rfl, rfl⟩
        go_wp2_with fail
        refine HC2.out.mono ?_
        rintro e w' ⟨rfl, rfl⟩
        go_wp2
        go_roundw
        case rel =>
          obtain ⟨l, hll⟩ : ∃ l : Nat, X + Y + cr = l := ⟨X + Y + cr, rfl⟩
          have hl0 : l < 1000000000 := by omega
          have hlI : (X : Int) + (Y : Int) + (cr : Int) = (l : Int) := by omega
          refine ⟨k + 1, 0, zs.set k l, by omega, by go_num, rfl, by omega, ?_, HBW.out.setCell (Nat.le_refl _) _, by simpa using HZL.out, ?_, ?_, ?_⟩
          · rw [u32s_set, hlI]
            exact (HO.out.stored k _).1
          · intro z hz
            rcases List.mem_or_eq_of_mem_set hz with hz | hz
            · exact HZB.out z hz
            · rw [hz]; exact hl0
          · rw [val_take_set _ _ _ _ (by rw [HZL.out]; omega), HV1.out, HV2.out]
            exact add_step _ _ _ _ _ X Y cr l 0 HV.out (by omega)
          · intro j hj
            rw [List.getD, List.getElem?_set_ne (by omega)]
            exact HZ.out j (by omega)
        case measure => simp [intOf]; omega
    · obtain rfl : k = N := by omega
      have hcell := hcell (by omega)
      go_wp2_with fail
      have hcr2 : cr < 4294967296 := by omega
      have hown2 := (HO.out.stored k (.int .u32 (cr : Int))).1
      rw [← u32s_set] at hown2
      have hb2 : Below g w (wr.setCell ⟨g, k, none⟩ (.int .u32 (cr : Int))) := HBW.out.setCell (Nat.le_refl _) _
      have hz2 : ∀ z ∈ zs.set k cr, z < 1000000000 := by
        intro z hz
        rcases List.mem_or_eq_of_mem_set hz with hz | hz
        · exact HZB.out z hz
        · omega
      have hlim : OwnS (wr.setCell ⟨g, k, none⟩ (.int .u32 (cr : Int))) g (some ⟨g, 0, none⟩) (k + 1) (k + 1) (zs.set k cr) :=
        ⟨hown2, by omega, fun z hz => by have := hz2 z hz; omega⟩
      have hfin : trim (zs.set k cr) = digs 1000000000 (val 1000000000 xs + val 1000000000 ys) := by
        rw [trim_eq_digs 1000000000 (by omega) _ hz2]
        congr 1
        have e1 := val_take_set 1000000000 zs k cr (by rw [HZL.out]; omega)
        rw [List.take_of_length_le (by simp [HZL.out])] at e1
        rw [e1, HV.out, val_take_all _ _ _ hNx, val_take_all _ _ _ hNy]
      refine (trim_c _ _ _ (zs.set k cr) _ hlim.limbs (by omega)).mono ?_
      rintro e w' ⟨A1, m1, c1, rfl, ho1, hb1⟩
      have hsz : g ≤ (wr.setCell ⟨g, k, none⟩ (.int .u32 (cr : Int))).heap.size := by have := hb2.size; have e := Hg.out; omega
      have HF1 := Lib.hid (ho1.weaken hsz)
      have HF2 := Lib.hid (hb2.trans (hb1.mono hsz))
      have HF3 := Lib.hid hfin
      clear ho1 hb1 hfin hlim hown2 hb2
      go_wp2
      go_ret
      exact ⟨A1, m1, c1, rfl, by rw [← HF3.out, Hg.out]; exact HF1.out, by rw [Hg.out]; exact HF2.out⟩
end Go.Proofs.YtkfjombeaidimaaDoor
/- Nat4 -/
namespace Go.Proofs.YtkfjombeaidimaaDoor
open Go.RowKit
/-- A round of subtracting. -/
theorem sub_step (b p v P Q X Y br l br' : Nat) (hv : v + Q = P + p * br) (h : X + b * br' = l + Y + br) : v + p * l + (Q + p * Y) = (P + p * X) + p * b * br' := by
  have h1 : p * (X + b * br') = p * (l + Y + br) := by rw [h]
  simp only [Nat.mul_add, ← Nat.mul_assoc] at h1
  omega
theorem sub_last (z y x p br : Nat) (h1 : z + y = x + p * br) (h2 : z < p) (h3 : y ≤ x) (h4 : br ≤ 1) : z = x - y := by
  rcases Nat.eq_zero_or_pos br with h | h
  · subst h; omega
  · obtain rfl : br = 1 := by omega
    omega
end Go.Proofs.YtkfjombeaidimaaDoor
/- Mul1 -/
namespace Go.Proofs.YtkfjombeaidimaaDoor
open Go.RowKit
theorem reads_at {w : World} {B n k : Nat} {A : Option Addr} {xs : List Nat} (h : Reads w B 1 A n (u32s xs)) (hk : k < n) : ∃ ad, A = some ad ∧ ad.block < B ∧ w.cell? (ad.add k) = some (.int .u32 ((xs.getD k 0 : Nat) : Int)) := by
  obtain ⟨ad, u, e, hb, hx, hc⟩ := h.at_ hk
  have hl : k < xs.length := by have := h.1; simp [u32s_length] at this; omega
  rw [u32s_get, List.getElem?_eq_getElem hl] at hx
  simp at hx
  subst hx
  refine ⟨ad, e, hb, ?_⟩
  rw [hc]; simp [List.getD, List.getElem?_eq_getElem hl]
theorem own_at {w : World} {base g N : Nat} {zs : List Nat} (h : w.ownsRow base 62 1 (.slice (some ⟨g, 0, none⟩) N N) N (u32s zs)) {j : Nat} (hj : j < N) : w.cell? ⟨g, j, none⟩ = some (.int .u32 ((zs.getD j 0 : Nat) : Int)) := by
  have hl : zs.length = N := by have := h.1; simpa [u32s_length] using this
  rw [h.cellAt j (by omega), u32s_get, List.getElem?_eq_getElem (by omega)]
  simp [List.getD, List.getElem?_eq_getElem (show j < zs.length by omega)]
theorem limb_prod {X y : Nat} (hx : X < 1000000000) (hy : y < 1000000000) : X * y ≤ 999999998000000001 :=
  Nat.mul_le_mul (show X ≤ 999999999 by omega) (show y ≤ 999999999 by omega)
end Go.Proofs.YtkfjombeaidimaaDoor
/- Mul2 -/
namespace Go.Proofs.YtkfjombeaidimaaDoor
open Go.RowKit
/-- A row of the call's own, trimmed, is the answer. -/
theorem trim_own (g N : Nat) (us : List Nat) (V : Nat) (w0 w : World) (hown : w.ownsRow g 62 1 (.slice (some ⟨g, 0, none⟩) N N) N (u32s us)) (hN : N ≤ 1000000000) (hb : Below g w0 w) (hg : w0.heap.size = g)
    (hu : ∀ z ∈ us, z < 1000000000) (hv : val 1000000000 us = V) :
    Calls Tryd.prog 54 #[.slice (some ⟨g, 0, none⟩) N N] w fun e w' => ∃ A' m c', e = .returned (.slice A' m c') ∧ OwnS w' g A' m c' (digs 1000000000 V) ∧ Below g w0 w' := by
  have hlim : OwnS w g (some ⟨g, 0, none⟩) N N us := ⟨hown, by omega, fun z hz => by have := hu z hz; omega⟩
  refine (trim_c _ _ _ us w hlim.limbs (by omega)).mono ?_
  rintro e w' ⟨A1, m1, c1, rfl, ho1, hb1⟩
  have hsz : g ≤ w.heap.size := by have := hb.size; omega
  rw [trim_eq_digs 1000000000 (by omega) _ hu, hv] at ho1
  exact ⟨A1, m1, c1, rfl, ho1.weaken hsz, hb.trans (hb1.mono hsz)⟩
end Go.Proofs.YtkfjombeaidimaaDoor
