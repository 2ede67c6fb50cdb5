/-
  KC: Nat1, Nat2, Nat3, Nat4, Mul1, Mul2.
-/
import Derived.Test.YtekanlcfgfllcaaDoorKA
/- Nat1 -/
set_option maxRecDepth 100000
namespace Go.Proofs.YtekanlcfgfllcaaDoor
open Go.RowKit
set_option maxHeartbeats 400000 in
theorem size_c (A : Option Addr) (n c : Nat) (xs : List Nat) (w : World) (h : Limbs w A n xs) :
    Calls Tryd.prog 52 #[.slice A n c] w fun e w' => e = .returned (.int .i64 (tz xs : Nat)) ∧ w = w' := by
  have hn := h.2.1
  have hl := Lib.hid h.len
  have H := Lib.hid h
  clear h
  go_enter Tryd.func52, Tryd.ntmps52
  go_wp2
  go_loop [3] (fun i => ∃ k : Nat, k ≤ n ∧ i = .int .i64 k ∧ ∀ j, k ≤ j → xs.getD j 0 = 0) (fun i => (intOf i).toNat)
  case atStart => exact ⟨n, Nat.le_refl _, rfl, fun j hj => by rw [List.getD, List.getElem?_eq_none (by rw [hl.out]; exact hj)]; rfl⟩
  case round =>
    obtain ⟨k, hk, rfl, hall0⟩ := hrel
    have hall := Lib.hid hall0
    clear hall0
    rcases k with _ | k
    · go_wp2
      go_ret
      refine ⟨?_, rfl⟩
      rw [tz_eq xs 0 hall.out (fun h => absurd h (by omega))]
      rfl
    · obtain ⟨ad, rfl, hb, hc, hx⟩ := H.out.at_ (k := k) (by omega)
      go_wp2
      · have hz : ((xs[k]?.getD 0 : Nat) : Int) == 0 := by assumption
        go_round
        case rel =>
          refine ⟨k, by omega, rfl, fun j hj => ?_⟩
          rcases Nat.eq_or_lt_of_le hj with rfl | hj
          · rw [List.getD]; simpa using hz
          · exact hall.out j hj
        case measure => simp [intOf]
      · have hz : (((xs[k]?.getD 0 : Nat) : Int) == 0) = false := by assumption
        go_ret
        refine ⟨?_, rfl⟩
        rw [tz_eq xs (k + 1) hall.out (fun _ => by rw [List.getD]; simpa using hz)]
        rfl
set_option maxHeartbeats 400000 in
theorem limbAt_c (A : Option Addr) (n c : Nat) (xs : List Nat) (w : World) (i : Int) (hi : 0 ≤ i) (hi2 : i ≤ 2000000000) (h : Limbs w A n xs) :
    Calls Tryd.prog 57 #[.slice A n c, .int .i64 i] w fun e w' => e = .returned (.int .u32 (xs.getD i.toNat 0 : Nat)) ∧ w = w' := by
  obtain ⟨k, rfl⟩ := Int.eq_ofNat_of_zero_le hi
  rw [Int.toNat_natCast]
  have hn := h.2.1
  have hl := Lib.hid h.len
  by_cases hlt : k < n
  · obtain ⟨ad, rfl, hb, hc, hx⟩ := h.at_ hlt
    have H := Lib.hid h
    clear h
    go_enter Tryd.func57, Tryd.ntmps57
    go_wp2
    go_ret
    exact ⟨rfl, rfl⟩
  · have H := Lib.hid h
    clear h
    go_enter Tryd.func57, Tryd.ntmps57
    go_wp2
    go_ret
    refine ⟨?_, rfl⟩
    rw [List.getD, List.getElem?_eq_none (by rw [hl.out]; omega)]
    rfl
set_option maxHeartbeats 400000 in
theorem compareInt_c (x y : Int) (w : World) :
    Calls Tryd.prog 53 #[.int .i64 x, .int .i64 y] w fun e w' => e = .returned (.int .i64 (if x < y then -1 else if y < x then 1 else 0)) ∧ w = w' := by
  rcases Int.lt_trichotomy x y with h | h | h
  · rw [if_pos h]
    go_enter Tryd.func53, Tryd.ntmps53
    go_wp2
    go_ret
    exact ⟨rfl, rfl⟩
  · subst h
    rw [if_neg (by omega), if_neg (by omega)]
    go_enter Tryd.func53, Tryd.ntmps53
    go_wp2
    go_ret
    exact ⟨rfl, rfl⟩
  · rw [if_neg (by omega), if_pos h]
    go_enter Tryd.func53, Tryd.ntmps53
    go_wp2
    go_ret
    exact ⟨rfl, rfl⟩
set_option maxHeartbeats 400000 in
theorem compareU32_c (x y : Int) (w : World) :
    Calls Tryd.prog 54 #[.int .u32 x, .int .u32 y] w fun e w' => e = .returned (.int .i64 (if x < y then -1 else if y < x then 1 else 0)) ∧ w = w' := by
  rcases Int.lt_trichotomy x y with h | h | h
  · rw [if_pos h]
    go_enter Tryd.func54, Tryd.ntmps54
    go_wp2
    go_ret
    exact ⟨rfl, rfl⟩
  · subst h
    rw [if_neg (by omega), if_neg (by omega)]
    go_enter Tryd.func54, Tryd.ntmps54
    go_wp2
    go_ret
    exact ⟨rfl, rfl⟩
  · rw [if_neg (by omega), if_pos h]
    go_enter Tryd.func54, Tryd.ntmps54
    go_wp2
    go_ret
    exact ⟨rfl, rfl⟩
set_option maxHeartbeats 400000 in
theorem trim_c (A : Option Addr) (n c : Nat) (xs : List Nat) (w : World) (h : Limbs w A n xs) (hn : n ≤ 1000000000) :
    Calls Tryd.prog 47 #[.slice A n c] w fun e w' => ∃ A' m c', e = .returned (.slice A' m c') ∧ OwnS w' w.heap.size A' m c' (trim xs) ∧ Below w.heap.size w w' := by
  obtain ⟨i0, hi, hz0, hz1, hz2⟩ := info_parts u32_info
  have hl := Lib.hid h.len
  have htz := tz_le xs
  rw [hl.out] at htz
  have H := Lib.hid h
  clear h
  go_enter Tryd.func47, Tryd.ntmps47
  go_wp2_with fail
  refine (size_c A n c xs w H.out).mono ?_
  rintro e w' ⟨rfl, rfl⟩
  go_wp2_with (at_make; refine wpList_make_full _ rfl _ _ 39 rfl w.heap.size 49 i0 (.int .u32 0) 1 Tryd.underlying39 hi hz0 hz1 _ _ _ _ (tz xs) rfl rfl rfl rfl ?b2 ?b3 (Nat.le_refl _) ?_)
  case b2 => rw [hz2]; omega
  case b3 => unfold maxLen; omega
  intro w1 hown hgrow
  rw [made_u32] at hown
  have hb1 : Below w.heap.size w w1 := (Below.refl _ _).grown hgrow (Nat.le_refl _) (fun k hk => by cases hk)
  have H1 := Lib.hid (H.out.below hb1)
  have HB := Lib.hid (own_blk hown)
  clear hown hgrow
  go_wp2_with (refine wpList_copy_splice rfl (.tmp 7) (.tmp 8) _ _ rfl 49 Tryd.underlying39 (by rw [hi]; simp [hz1]) _ A _ (tz xs) n c rfl rfl w.heap.size 0 (u32s (List.replicate (tz xs) 0)) 49 HB.out.1 (u32s (xs.take (tz xs))) ?c1 ?c2 ?c3 (u32_one _) w.heap.size w hb1 (Nat.le_refl _) ?_)
  case c1 => simp only [u32s_length, List.length_take, hl.out]; exact Nat.min_comm _ _
  case c2 =>
    intro hp
    obtain ⟨ad, e1, hb, hcell⟩ := H1.out.1.2 (by simp [u32s_length, hl.out] at hp; omega)
    refine ⟨ad, e1, fun j v hv => hcell j v ?_⟩
    rw [u32s_get] at hv ⊢
    rw [List.getElem?_take] at hv
    split at hv
    · exact hv
    · simp at hv
  case c3 => simp [u32s_length, hl.out]; omega
  intro w2 hh hb2
  rw [splice_all _ _ (by simp [u32s_length, hl.out]; omega)] at hh
  go_wp2
  go_ret
  refine ⟨_, _, _, rfl, ⟨?_, by omega, fun x hx => H.out.2.2 x (List.mem_of_mem_take hx)⟩, hb2⟩
  exact own_of_blk hh.out (Nat.le_refl _) (by simp [u32s_length, trim_length]) (by unfold maxLen; omega)
end Go.Proofs.YtekanlcfgfllcaaDoor
/- Nat2 -/
namespace Go.Proofs.YtekanlcfgfllcaaDoor
open Go.RowKit
set_option maxHeartbeats 400000 in
set_option maxRecDepth 100000 in
theorem natGood_c (A : Option Addr) (n c : Nat) (xs : List Nat) (w : World) (h : Limbs w A n xs) :
    Calls Tryd.prog 48 #[.slice A n c] w fun e w' => e = .returned (.bool (xs.all (fun x => decide (x ≤ 999999999)))) ∧ w = w' := by
  have hn := h.2.1
  have hl := Lib.hid h.len
  have H := Lib.hid h
  clear h
  go_enter Tryd.func48, Tryd.ntmps48
  go_wp2
  go_loop [4, 7] (fun _ i => ∃ k : Nat, k ≤ n ∧ i = .int .i64 k ∧ ∀ j, j < k → xs.getD j 0 ≤ 999999999) (fun _ i => n - (intOf i).toNat)
  case atStart => exact ⟨0, Nat.zero_le _, rfl, fun j hj => absurd hj (by omega)⟩
  case round =>
    obtain ⟨k, hk, rfl, hall0⟩ := hrel
    have hall := Lib.hid hall0
    clear hall0
    by_cases hlt : k < n
    · obtain ⟨ad, rfl, hb, hc, hx⟩ := H.out.at_ hlt
      by_cases hbig : (1000000000 : Int) ≤ ((xs[k]?.getD 0 : Nat) : Int)
      · have h1 := Lib.hid hbig
        go_wp2
        go_ret
        refine ⟨?_, rfl⟩
        have : xs.all (fun x => decide (x ≤ 999999999)) = false := by
          rw [List.all_eq_false]
          have hlt' : k < xs.length := by rw [hl.out]; exact hlt
          refine ⟨xs[k], List.getElem_mem hlt', ?_⟩
          have h2 := h1.out
          rw [List.getElem?_eq_getElem hlt', Option.getD_some] at h2
          simp; omega
        rw [this]; rfl
      · have h1 := Lib.hid hbig
        go_wp2
        go_round
        case rel =>
          refine ⟨k + 1, by omega, by go_num, fun j hj => ?_⟩
          rcases Nat.lt_or_ge j k with hjk | hjk
          · exact hall.out j hjk
          · obtain rfl : j = k := by omega
            have h2 := h1.out
            rw [List.getD]; omega
        case measure => simp [intOf]; omega
    · go_wp2
      go_ret
      refine ⟨?_, rfl⟩
      have : xs.all (fun x => decide (x ≤ 999999999)) = true := by
        rw [List.all_eq_true]
        intro x hx
        obtain ⟨j, hj, rfl⟩ := List.mem_iff_getElem.1 hx
        have := hall.out j (by rw [hl.out] at hj; omega)
        rw [List.getD, List.getElem?_eq_getElem hj, Option.getD_some] at this
        simpa using this
      rw [this]; rfl
/-- What Cmp answers. -/
def cmpI (a b : Nat) : Int := if a < b then -1 else if b < a then 1 else 0
theorem cmpI_of_lt {a b : Nat} (h : a < b) : cmpI a b = -1 := by simp [cmpI, h]
theorem cmpI_of_gt {a b : Nat} (h : b < a) : cmpI a b = 1 := by rw [cmpI, if_neg (by omega), if_pos h]
theorem cmpI_of_eq {a b : Nat} (h : a = b) : cmpI a b = 0 := by rw [cmpI, if_neg (by omega), if_neg (by omega)]
theorem compareU32_lt (x y : Int) (w : World) (h : x < y) : Calls Tryd.prog 54 #[.int .u32 x, .int .u32 y] w fun e w' => e = .returned (.int .i64 (-1)) ∧ w = w' :=
  (compareU32_c x y w).mono fun e w' ⟨h1, h2⟩ => ⟨by rw [h1, if_pos h], h2⟩
theorem compareU32_eq (x y : Int) (w : World) (h : x = y) : Calls Tryd.prog 54 #[.int .u32 x, .int .u32 y] w fun e w' => e = .returned (.int .i64 0) ∧ w = w' :=
  (compareU32_c x y w).mono fun e w' ⟨h1, h2⟩ => ⟨by rw [h1, if_neg (by omega), if_neg (by omega)], h2⟩
theorem compareU32_gt (x y : Int) (w : World) (h : y < x) : Calls Tryd.prog 54 #[.int .u32 x, .int .u32 y] w fun e w' => e = .returned (.int .i64 1) ∧ w = w' :=
  (compareU32_c x y w).mono fun e w' ⟨h1, h2⟩ => ⟨by rw [h1, if_neg (by omega), if_pos h], h2⟩
set_option maxHeartbeats 400000 in
theorem cmp_c (A A' : Option Addr) (n c n' c' : Nat) (xs ys : List Nat) (w : World) (h : Limbs w A n xs) (h' : Limbs w A' n' ys) (gx : ∀ x ∈ xs, x < 1000000000) (gy : ∀ y ∈ ys, y < 1000000000) :
    Calls Tryd.prog 24 #[.slice A n c, .slice A' n' c'] w fun e w' => e = .returned (.int .i64 (cmpI (val 1000000000 xs) (val 1000000000 ys))) ∧ Below w.heap.size w w' := by
  have hn := h.2.1
  have hn' := h'.2.1
  have hl := Lib.hid h.len
  have hl' := Lib.hid h'.len
  have htx := tz_le xs
  have hty := tz_le ys
  rw [hl.out] at htx
  rw [hl'.out] at hty
  have H := Lib.hid h
  have H' := Lib.hid h'
  have GX := Lib.hid gx
  have GY := Lib.hid gy
  clear h h' gx gy
  rcases Nat.lt_trichotomy (tz xs) (tz ys) with hc | hc | hc
  · have hbs : ((tz xs : Nat) : Int) < ((tz ys : Nat) : Int) := by omega
    have hfin := Lib.hid (cmpI_of_lt (val_lt_of_tz 1000000000 (by omega) xs ys GX.out hc))
    go_enter Tryd.func24, Tryd.ntmps24
    go_wp2_with fail
    refine (size_c A n c xs w H.out).mono ?_
    rintro e w' ⟨rfl, rfl⟩
    go_wp2_with fail
    refine (size_c A' n' c' ys w H'.out).mono ?_
    rintro e w' ⟨rfl, rfl⟩
    go_wp2_with fail
    refine (compareInt_c _ _ w).mono ?_
    rintro e w' ⟨rfl, rfl⟩
    go_wp2
    go_ret
    exact ⟨by rw [hfin.out]; rfl, Below.refl _ _⟩
  · have hbe : ((tz xs : Nat) : Int) = ((tz ys : Nat) : Int) := by omega
    have hb1 : ((((tz xs : Nat) : Int)) != 0) = true ∨ tz xs = 0 := by simp; omega
    have HC := Lib.hid hc
    clear hc
    have hif0 : (if ((tz xs : Nat) : Int) < ((tz ys : Nat) : Int) then (-1 : Int) else if ((tz ys : Nat) : Int) < ((tz xs : Nat) : Int) then 1 else 0) = 0 := by
      rw [if_neg (by omega), if_neg (by omega)]
    have hif := Lib.hid hif0
    clear hbe hb1 hif0
    go_enter Tryd.func24, Tryd.ntmps24
    go_wp2_with fail
    refine (size_c A n c xs w H.out).mono ?_
    rintro e w' ⟨rfl, rfl⟩
    go_wp2_with fail
    refine (size_c A' n' c' ys w H'.out).mono ?_
    rintro e w' ⟨rfl, rfl⟩
    go_wp2_with fail
    refine (compareInt_c _ _ w).mono ?_
    rw [hif.out]
    rintro e w' ⟨rfl, rfl⟩
    go_wp2_with fail
    go_loopw [7] (fun i wr => ∃ k m : Nat, k ≤ tz xs ∧ i = .int .i64 ((k : Int) - 1) ∧ wr = w.drewN m ∧ ∀ j, k ≤ j → xs.getD j 0 = ys.getD j 0) (fun i _ => (intOf i + 1).toNat)
    case atStart => exact ⟨tz xs, 0, Nat.le_refl _, rfl, rfl, fun j hj => by rw [tz_above xs j hj, tz_above ys j (by have := HC.out; omega)]⟩
    case round =>
      obtain ⟨k, m, hk, rfl, rfl, hall0⟩ := hrel
      have hall := Lib.hid hall0
      clear hall0
      rcases k with _ | k
      · go_wp2
        go_ret
        refine ⟨?_, (Below.refl _ _).of_drewN _⟩
        rw [cmpI_of_eq (val_congr _ _ _ fun j => hall.out j (Nat.zero_le _))]
        rfl
      · obtain ⟨ad, rfl, hb, hcl, hx⟩ := H.out.at_ (k := k) (by omega)
        obtain ⟨ad', rfl, hb', hcl', hx'⟩ := H'.out.at_ (k := k) (by have := HC.out; omega)
        rw [show ((k + 1 : Nat) : Int) - 1 = (k : Int) from by omega]
        have hkn : k < n := by omega
        have hkn' : k < n' := by have := HC.out; omega
        rcases Int.lt_trichotomy ((xs.getD k 0 : Nat) : Int) ((ys.getD k 0 : Nat) : Int) with ho | ho | ho
        · have hcall := Lib.hid fun W => compareU32_lt _ _ W ho
          have HO := Lib.hid ho
          clear ho
          go_wp2_with fail
          go_quiet ((go_at_call 54; exact quiet_add_left (hcall.out _)))
          go_wp2
          go_ret
          refine ⟨?_, (Below.refl _ _).of_drewN _⟩
          rw [cmpI_of_lt (val_lt_of 1000000000 (by omega) xs ys GX.out k (fun j hj => hall.out j hj) (by have := HO.out; omega))]
          rfl
        · have hcall := Lib.hid fun W => compareU32_eq _ _ W ho
          have HO := Lib.hid ho
          clear ho
          go_wp2_with fail
          go_quiet ((go_at_call 54; exact quiet_add_left (hcall.out _)))
          go_wp2
          go_roundw
          case rel =>
            refine ⟨k, _, by omega, rfl, rfl, fun j hj => ?_⟩
            rcases Nat.eq_or_lt_of_le hj with rfl | hj
            · have := HO.out; omega
            · exact hall.out j hj
          case measure => simp [intOf]
        · have hcall := Lib.hid fun W => compareU32_gt _ _ W ho
          have HO := Lib.hid ho
          clear ho
          go_wp2_with fail
          go_quiet ((go_at_call 54; exact quiet_add_left (hcall.out _)))
          go_wp2
          go_ret
          refine ⟨?_, (Below.refl _ _).of_drewN _⟩
          rw [cmpI_of_gt (val_lt_of 1000000000 (by omega) ys xs GY.out k (fun j hj => (hall.out j hj).symm) (by have := HO.out; omega))]
          rfl
  · have hbs : ((tz ys : Nat) : Int) < ((tz xs : Nat) : Int) := by omega
    have hfin := Lib.hid (cmpI_of_gt (val_lt_of_tz 1000000000 (by omega) ys xs GY.out hc))
    go_enter Tryd.func24, Tryd.ntmps24
    go_wp2_with fail
    refine (size_c A n c xs w H.out).mono ?_
    rintro e w' ⟨rfl, rfl⟩
    go_wp2_with fail
    refine (size_c A' n' c' ys w H'.out).mono ?_
    rintro e w' ⟨rfl, rfl⟩
    go_wp2_with fail
    refine (compareInt_c _ _ w).mono ?_
    rintro e w' ⟨rfl, rfl⟩
    go_wp2
    go_ret
    exact ⟨by rw [hfin.out]; rfl, Below.refl _ _⟩
end Go.Proofs.YtekanlcfgfllcaaDoor
/- Nat3 -/
namespace Go.Proofs.YtekanlcfgfllcaaDoor
open Go.RowKit
/-- One figure written at place i. -/
theorem val_take_set (b : Nat) (ys : List Nat) (i x : Nat) (h : i < ys.length) : val b ((ys.set i x).take (i + 1)) = val b (ys.take i) + b ^ i * x := by
  rw [val_take_succ]
  simp [List.getD, h, List.take_set_of_le]
theorem u32s_set (ys : List Nat) (i x : Nat) : u32s (ys.set i x) = (u32s ys).set i (.int .u32 (x : Int)) := by simp [u32s, List.map_set]
/-- A round of adding. -/
theorem add_step (b p v P Q X Y cr l cr' : Nat) (hv : v + p * cr = P + Q) (h : X + Y + cr = l + b * cr') : v + p * l + p * b * cr' = (P + p * X) + (Q + p * Y) := by
  have h1 : p * (X + Y + cr) = p * (l + b * cr') := by rw [h]
  simp only [Nat.mul_add, ← Nat.mul_assoc] at h1
  omega
set_option maxHeartbeats 800000 in
set_option maxRecDepth 100000 in
theorem add_c (A A' : Option Addr) (n c n' c' : Nat) (xs ys : List Nat) (w : World) (h : Limbs w A n xs) (h' : Limbs w A' n' ys) (gx : ∀ x ∈ xs, x < 1000000000) (gy : ∀ y ∈ ys, y < 1000000000)
    (hnn : n ≤ 900000000) (hnn' : n' ≤ 900000000) :
    Calls Tryd.prog 28 #[.slice A n c, .slice A' n' c'] w fun e w' => ∃ A1 m1 c1, e = .returned (.slice A1 m1 c1) ∧
      OwnS w' w.heap.size A1 m1 c1 (digs 1000000000 (val 1000000000 xs + val 1000000000 ys)) ∧ Below w.heap.size w w' := by
  obtain ⟨i0, hi, hz0, hz1, hz2⟩ := info_parts u32_info
  have hl := Lib.hid h.len
  have hl' := Lib.hid h'.len
  have htx := tz_le xs
  have hty := tz_le ys
  rw [hl.out] at htx
  rw [hl'.out] at hty
  have H := Lib.hid h
  have H' := Lib.hid h'
  have GX := Lib.hid gx
  have GY := Lib.hid gy
  clear h h' gx gy
  obtain ⟨N, hN⟩ : ∃ N : Nat, N = max (tz xs) (tz ys) := ⟨_, rfl⟩
  have hN1 : N ≤ 900000000 := by omega
  have hNx : tz xs ≤ N := by omega
  have hNy : tz ys ≤ N := by omega
  have HN := Lib.hid (show max ((tz xs : Nat) : Int) ((tz ys : Nat) : Int) = (N : Int) by omega)
  clear hN
  go_enter Tryd.func28, Tryd.ntmps28
  go_wp2_with fail
  refine (size_c A n c xs w H.out).mono ?_
  rintro e w' ⟨rfl, rfl⟩
  go_wp2_with fail
  refine (size_c A' n' c' ys w H'.out).mono ?_
  rintro e w' ⟨rfl, rfl⟩
  go_wp2_with (at_make; refine wpList_make_full _ rfl _ _ 39 rfl w.heap.size 49 i0 (.int .u32 0) 1 Tryd.underlying39 hi hz0 hz1 _ _ _ _ (N + 1) rfl rfl ?b0 ?b1 ?b2 ?b3 (Nat.le_refl _) ?_)
  case b0 => have := HN.out; omega
  case b1 => have := HN.out; omega
  case b2 => rw [hz2]; omega
  case b3 => unfold maxLen; omega
  rw [HN.out]
  intro w1 hown hgrow
  rw [made_u32] at hown
  have hb1 : Below w.heap.size w w1 := (Below.refl _ _).grown hgrow (Nat.le_refl _) (fun k hk => by cases hk)
  clear hgrow
  go_wp2_with fail
  have W0 := Lib.hid hown
  have hb1' := Lib.hid hb1
  clear hown hb1
  generalize hg : w.heap.size = g
  have Hg := Lib.hid hg
  clear hg
  go_loopw [7, 8, 9, 19] (fun cy _ _ i wr => ∃ (k : Nat) (cr : Nat) (zs : List Nat), k ≤ N ∧ i = .int .i64 k ∧ cy = .int .u32 (cr : Int) ∧ cr ≤ 1 ∧
      wr.ownsRow g 49 1 (.slice (some ⟨g, 0, none⟩) (N + 1) (N + 1)) (N + 1) (u32s zs) ∧ Below g w wr ∧ zs.length = N + 1 ∧ (∀ z ∈ zs, z < 1000000000) ∧
      val 1000000000 (zs.take k) + 1000000000 ^ k * cr = val 1000000000 (xs.take k) + val 1000000000 (ys.take k) ∧ (∀ j, k ≤ j → zs.getD j 0 = 0)) (fun _ _ _ i _ => N - (intOf i).toNat)
  case atStart =>
    refine ⟨0, 0, List.replicate (N + 1) 0, Nat.zero_le _, rfl, rfl, by omega, by rw [← Hg.out]; exact W0.out, by rw [← Hg.out]; exact hb1'.out, by simp, ?_, by simp [val], ?_⟩
    · intro z hz; rw [List.eq_of_mem_replicate hz]; omega
    · intro j hj; simp [List.getD, List.getElem?_replicate]; split <;> rfl
  case round =>
    obtain ⟨k, cr, zs, hk, rfl, rfl, hcr, hown0, hbw0, hzl0, hzb0, hval0, hzz0⟩ := hrel
    have HO := Lib.hid hown0
    have HBW := Lib.hid hbw0
    have HZL := Lib.hid hzl0
    have HZB := Lib.hid hzb0
    have HV := Lib.hid hval0
    have HZ := Lib.hid hzz0
    have hcell : k < N + 1 → wr.cell? ⟨g, k, none⟩ = some (.int .u32 0) := fun hlt => by
      rw [HO.out.cellAt k (by omega), u32s_get, List.getElem?_eq_getElem (by rw [HZL.out]; omega)]
      have := HZ.out k (Nat.le_refl _)
      rw [List.getD, List.getElem?_eq_getElem (by rw [HZL.out]; omega)] at this
      simp at this
      simp [this]
    have hfr : wr.frozen? ⟨g, k, none⟩ = false := HO.out.frozenAt k
    clear hown0 hbw0 hzl0 hzb0 hval0 hzz0
    have HX := Lib.hid (H.out.below (by rw [Hg.out]; exact HBW.out))
    have HY := Lib.hid (H'.out.below (by rw [Hg.out]; exact HBW.out))
    by_cases hlt : k < N
    · have hcell := hcell (by omega)
      have hX1 := getD_lt 1000000000 (by omega) xs GX.out k
      have hY1 := getD_lt 1000000000 (by omega) ys GY.out k
      have CX := limbAt_c A n c xs wr (k : Int) (by omega) (by omega) HX.out
      have CY := limbAt_c A' n' c' ys wr (k : Int) (by omega) (by omega) HY.out
      have hv1 := val_take_succ 1000000000 xs k
      have hv2 := val_take_succ 1000000000 ys k
      rw [Int.toNat_natCast] at CX CY
      generalize hX : xs.getD k 0 = X at CX hX1 hv1
      generalize hY : ys.getD k 0 = Y at CY hY1 hv2
      have HC1 := Lib.hid CX
      have HC2 := Lib.hid CY
      have HV1 := Lib.hid hv1
      have HV2 := Lib.hid hv2
      clear CX CY hX hY hv1 hv2
      by_cases hbig : (1000000000 : Int) ≤ (X : Int) + (Y : Int) + (cr : Int)
      · go_wp2_with fail
        refine HC1.out.mono ?_
        rintro e w' ⟨rfl, rfl⟩
        go_wp2_with fail
        refine HC2.out.mono ?_
        rintro e w' ⟨rfl, rfl⟩
        go_wp2
        go_roundw
        case rel =>
          obtain ⟨l, hll⟩ : ∃ l : Nat, X + Y + cr = l + 1000000000 := ⟨X + Y + cr - 1000000000, by omega⟩
          have hl0 : l < 1000000000 := by omega
          have hlI : (X : Int) + (Y : Int) + (cr : Int) - 1000000000 = (l : Int) := by omega
          refine ⟨k + 1, 1, zs.set k l, by omega, by go_num, rfl, by omega, ?_, HBW.out.setCell (Nat.le_refl _) _, by simpa using HZL.out, ?_, ?_, ?_⟩
          · rw [u32s_set, hlI]
            exact (HO.out.stored k _).1
          · intro z hz
            rcases List.mem_or_eq_of_mem_set hz with hz | hz
            · exact HZB.out z hz
            · rw [hz]; exact hl0
          · rw [val_take_set _ _ _ _ (by rw [HZL.out]; omega), HV1.out, HV2.out]
            exact add_step _ _ _ _ _ X Y cr l 1 HV.out (by omega)
          · intro j hj
            rw [List.getD, List.getElem?_set_ne (by omega)]
            exact HZ.out j (by omega)
        case measure => simp [intOf]; omega
      · have hsm : (X : Int) + (Y : Int) + (cr : Int) < 1000000000 := by omega
        have hd : decide ((1000000000 : Int) ≤ (X : Int) + (Y : Int) + (cr : Int)) = false := by simp; omega
        clear hbig
        go_wp2_with fail
        refine HC1.out.mono ?_
        rintro e w' ⟨rfl, rfl⟩
        go_wp2_with fail
        refine HC2.out.mono ?_
        rintro e w' ⟨rfl, rfl⟩
        go_wp2
        go_roundw
        case rel =>
          obtain ⟨l, hll⟩ : ∃ l : Nat, X + Y + cr = l := ⟨X + Y + cr, rfl⟩
          have hl0 : l < 1000000000 := by omega
          have hlI : (X : Int) + (Y : Int) + (cr : Int) = (l : Int) := by omega
          refine ⟨k + 1, 0, zs.set k l, by omega, by go_num, rfl, by omega, ?_, HBW.out.setCell (Nat.le_refl _) _, by simpa using HZL.out, ?_, ?_, ?_⟩
          · rw [u32s_set, hlI]
            exact (HO.out.stored k _).1
          · intro z hz
            rcases List.mem_or_eq_of_mem_set hz with hz | hz
            · exact HZB.out z hz
            · rw [hz]; exact hl0
          · rw [val_take_set _ _ _ _ (by rw [HZL.out]; omega), HV1.out, HV2.out]
            exact add_step _ _ _ _ _ X Y cr l 0 HV.out (by omega)
          · intro j hj
            rw [List.getD, List.getElem?_set_ne (by omega)]
            exact HZ.out j (by omega)
        case measure => simp [intOf]; omega
    · obtain rfl : k = N := by omega
      have hcell := hcell (by omega)
      go_wp2_with fail
      have hcr2 : cr < 4294967296 := by omega
      have hown2 := (HO.out.stored k (.int .u32 (cr : Int))).1
      rw [← u32s_set] at hown2
      have hb2 : Below g w (wr.setCell ⟨g, k, none⟩ (.int .u32 (cr : Int))) := HBW.out.setCell (Nat.le_refl _) _
      have hz2 : ∀ z ∈ zs.set k cr, z < 1000000000 := by
        intro z hz
        rcases List.mem_or_eq_of_mem_set hz with hz | hz
        · exact HZB.out z hz
        · omega
      have hlim : OwnS (wr.setCell ⟨g, k, none⟩ (.int .u32 (cr : Int))) g (some ⟨g, 0, none⟩) (k + 1) (k + 1) (zs.set k cr) :=
        ⟨hown2, by omega, fun z hz => by have := hz2 z hz; omega⟩
      have hfin : trim (zs.set k cr) = digs 1000000000 (val 1000000000 xs + val 1000000000 ys) := by
        rw [trim_eq_digs 1000000000 (by omega) _ hz2]
        congr 1
        have e1 := val_take_set 1000000000 zs k cr (by rw [HZL.out]; omega)
        rw [List.take_of_length_le (by simp [HZL.out])] at e1
        rw [e1, HV.out, val_take_all _ _ _ hNx, val_take_all _ _ _ hNy]
      refine (trim_c _ _ _ (zs.set k cr) _ hlim.limbs (by omega)).mono ?_
      rintro e w' ⟨A1, m1, c1, rfl, ho1, hb1⟩
      have hsz : g ≤ (wr.setCell ⟨g, k, none⟩ (.int .u32 (cr : Int))).heap.size := by have := hb2.size; have e := Hg.out; omega
      have HF1 := Lib.hid (ho1.weaken hsz)
      have HF2 := Lib.hid (hb2.trans (hb1.mono hsz))
      have HF3 := Lib.hid hfin
      clear ho1 hb1 hfin hlim hown2 hb2
      go_wp2
      go_ret
      exact ⟨A1, m1, c1, rfl, by rw [← HF3.out, Hg.out]; exact HF1.out, by rw [Hg.out]; exact HF2.out⟩
end Go.Proofs.YtekanlcfgfllcaaDoor
/- Nat4 -/
namespace Go.Proofs.YtekanlcfgfllcaaDoor
open Go.RowKit
/-- A round of subtracting. -/
theorem sub_step (b p v P Q X Y br l br' : Nat) (hv : v + Q = P + p * br) (h : X + b * br' = l + Y + br) : v + p * l + (Q + p * Y) = (P + p * X) + p * b * br' := by
  have h1 : p * (X + b * br') = p * (l + Y + br) := by rw [h]
  simp only [Nat.mul_add, ← Nat.mul_assoc] at h1
  omega
theorem sub_last (z y x p br : Nat) (h1 : z + y = x + p * br) (h2 : z < p) (h3 : y ≤ x) (h4 : br ≤ 1) : z = x - y := by
  rcases Nat.eq_zero_or_pos br with h | h
  · subst h; omega
  · obtain rfl : br = 1 := by omega
    omega
theorem sub_less (A A' : Option Addr) (n c n' c' : Nat) (xs ys : List Nat) (w : World) (h : Limbs w A n xs) (h' : Limbs w A' n' ys) (gx : ∀ x ∈ xs, x < 1000000000) (gy : ∀ y ∈ ys, y < 1000000000)
    (hlt : val 1000000000 xs < val 1000000000 ys) :
    Calls Tryd.prog 89 #[.slice A n c, .slice A' n' c'] w fun e w' => e = .returned (.tuple #[.slice none 0 0, .bool false]) ∧ Below w.heap.size w w' := by
  have HC := Lib.hid ((cmp_c A A' n c n' c' xs ys w h h' gx gy).mono fun e w' ⟨h1, h2⟩ => (⟨h1.trans (by rw [cmpI_of_lt hlt]), h2⟩ : e = Ending.returned (.int .i64 (-1)) ∧ Below w.heap.size w w'))
  clear h h' gx gy hlt
  go_enter Tryd.func89, Tryd.ntmps89
  go_wp2_with fail
  refine HC.out.mono ?_
  rintro e w1 ⟨rfl, hb⟩
  go_wp2
  go_ret2
  exact ⟨rfl, hb⟩
set_option maxHeartbeats 800000 in
set_option maxRecDepth 100000 in
theorem sub_geq (A A' : Option Addr) (n c n' c' : Nat) (xs ys : List Nat) (w : World) (h : Limbs w A n xs) (h' : Limbs w A' n' ys) (gx : ∀ x ∈ xs, x < 1000000000) (gy : ∀ y ∈ ys, y < 1000000000)
    (hge : val 1000000000 ys ≤ val 1000000000 xs) (hnn : n ≤ 900000000) :
    Calls Tryd.prog 89 #[.slice A n c, .slice A' n' c'] w fun e w' => ∃ A1 m1 c1, e = .returned (.tuple #[.slice A1 m1 c1, .bool true]) ∧
      OwnS w' w.heap.size A1 m1 c1 (digs 1000000000 (val 1000000000 xs - val 1000000000 ys)) ∧ Below w.heap.size w w' := by
  obtain ⟨i0, hi, hz0, hz1, hz2⟩ := info_parts u32_info
  have CC := cmp_c A A' n c n' c' xs ys w h h' gx gy
  have hn := h.2.1
  have hn' := h'.2.1
  have hl := Lib.hid h.len
  have hl' := Lib.hid h'.len
  have htx := tz_le xs
  have htxy : tz ys ≤ tz xs := by
    rcases Nat.lt_or_ge (tz xs) (tz ys) with hh | hh
    · have := val_lt_of_tz 1000000000 (by omega) xs ys gx hh; omega
    · exact hh
  rw [hl.out] at htx
  have H := Lib.hid h
  have H' := Lib.hid h'
  have GX := Lib.hid gx
  have GY := Lib.hid gy
  have HGE := Lib.hid hge
  clear h h' gx gy
  obtain ⟨r, hr0, hr⟩ : ∃ r : Int, 0 ≤ r ∧ cmpI (val 1000000000 xs) (val 1000000000 ys) = r := by
    refine ⟨_, ?_, rfl⟩
    rw [cmpI, if_neg (by omega)]
    split <;> omega
  rw [hr] at CC
  have HC := Lib.hid CC
  clear CC hr hge
  generalize hN : tz xs = N at htx htxy
  have HN := Lib.hid hN
  clear hN
  generalize hg0 : w.heap.size = g0 at HC ⊢
  have Hg0 := Lib.hid hg0
  clear hg0
  go_enter Tryd.func89, Tryd.ntmps89
  go_wp2_with fail
  refine HC.out.mono ?_
  rintro e w1 ⟨rfl, hbc⟩
  have HB1 := Lib.hid hbc
  clear hbc HC
  have H1 := Lib.hid (H.out.below (by rw [Hg0.out]; exact HB1.out))
  have H1' := Lib.hid (H'.out.below (by rw [Hg0.out]; exact HB1.out))
  have CS := size_c A n c xs w1 H1.out
  rw [HN.out] at CS
  have HCS := Lib.hid CS
  clear CS
  go_wp2_with fail
  refine HCS.out.mono ?_
  rintro e w' ⟨rfl, rfl⟩
  clear HCS
  go_wp2_with (at_make; refine wpList_make_full _ rfl _ _ 39 rfl w1.heap.size 49 i0 (.int .u32 0) 1 Tryd.underlying39 hi hz0 hz1 _ _ _ _ N rfl rfl rfl rfl ?b2 ?b3 (Nat.le_refl _) ?_)
  case b2 => rw [hz2]; omega
  case b3 => unfold maxLen; omega
  intro w2 hown hgrow
  rw [made_u32] at hown
  have hb2 := Lib.hid ((Below.refl w1.heap.size w1).grown hgrow (Nat.le_refl _) (fun k hk => by cases hk))
  clear hgrow
  go_wp2_with fail
  have W0 := Lib.hid hown
  clear hown
  generalize hg : w1.heap.size = g
  have Hg := Lib.hid hg
  clear hg
  go_loopw [8, 9, 10, 20] (fun bw _ _ i wr => ∃ (k : Nat) (br : Nat) (zs : List Nat), k ≤ N ∧ i = .int .i64 k ∧ bw = .int .u32 (br : Int) ∧ br ≤ 1 ∧
      wr.ownsRow g 49 1 (.slice (some ⟨g, 0, none⟩) N N) N (u32s zs) ∧ Below g w1 wr ∧ zs.length = N ∧ (∀ z ∈ zs, z < 1000000000) ∧
      val 1000000000 (zs.take k) + val 1000000000 (ys.take k) = val 1000000000 (xs.take k) + 1000000000 ^ k * br ∧ (∀ j, k ≤ j → zs.getD j 0 = 0)) (fun _ _ _ i _ => N - (intOf i).toNat)
  case atStart =>
    refine ⟨0, 0, List.replicate N 0, Nat.zero_le _, rfl, rfl, by omega, by rw [← Hg.out]; exact W0.out, by rw [← Hg.out]; exact hb2.out, by simp, ?_, by simp [val], ?_⟩
    · intro z hz; rw [List.eq_of_mem_replicate hz]; omega
    · intro j hj; simp [List.getD, List.getElem?_replicate]; split <;> rfl
  case round =>
    obtain ⟨k, br, zs, hk, rfl, rfl, hbr, hown0, hbw0, hzl0, hzb0, hval0, hzz0⟩ := hrel
    have HO := Lib.hid hown0
    have HBW := Lib.hid hbw0
    have HZL := Lib.hid hzl0
    have HZB := Lib.hid hzb0
    have HV := Lib.hid hval0
    have HZ := Lib.hid hzz0
    have hcell : k < N → wr.cell? ⟨g, k, none⟩ = some (.int .u32 0) := fun hlt => by
      rw [HO.out.cellAt k (by omega), u32s_get, List.getElem?_eq_getElem (by rw [HZL.out]; omega)]
      have := HZ.out k (Nat.le_refl _)
      rw [List.getD, List.getElem?_eq_getElem (by rw [HZL.out]; omega)] at this
      simp at this
      simp [this]
    have hfr : wr.frozen? ⟨g, k, none⟩ = false := HO.out.frozenAt k
    clear hown0 hbw0 hzl0 hzb0 hval0 hzz0
    have HX := Lib.hid (H1.out.below (by rw [Hg.out]; exact HBW.out))
    have HY := Lib.hid (H1'.out.below (by rw [Hg.out]; exact HBW.out))
    by_cases hlt : k < N
    · have hcell := hcell hlt
      have hkn : k < n := by omega
      obtain ⟨ad, rfl, _, hcl, hx⟩ := HX.out.at_ hkn
      have hX1 := getD_lt 1000000000 (by omega) xs GX.out k
      have hY1 := getD_lt 1000000000 (by omega) ys GY.out k
      have CY := fun nq => limbAt_c A' n' c' ys (wr.drewN nq) (k : Int) (by omega) (by omega) HY.out
      have hv1 := val_take_succ 1000000000 xs k
      have hv2 := val_take_succ 1000000000 ys k
      simp only [Int.toNat_natCast] at CY
      generalize hX : xs.getD k 0 = X at hcl hX1 hv1
      generalize hY : ys.getD k 0 = Y at CY hY1 hv2
      have HC2 := Lib.hid CY
      have HV1 := Lib.hid hv1
      have HV2 := Lib.hid hv2
      clear CY hX hY hv1 hv2
      by_cases hbig : (1000000000 : Int) ≤ 1000000000 + (X : Int) - (Y : Int) - (br : Int)
      · go_wp2_with fail
        go_quiet ((go_at_call 57; exact quiet_left (HC2.out _)))
        go_wp2
        go_roundw
        case rel =>
          obtain ⟨l, hll⟩ : ∃ l : Nat, (X : Int) - (Y : Int) - (br : Int) = (l : Int) := ⟨X - Y - br, by omega⟩
          have hl0 : l < 1000000000 := by omega
          have hlI : 1000000000 + (X : Int) - (Y : Int) - (br : Int) - 1000000000 = (l : Int) := by omega
          refine ⟨k + 1, 0, zs.set k l, by omega, by go_num, rfl, by omega, ?_, (HBW.out.of_drewN _).setCell (Nat.le_refl _) _, by simpa using HZL.out, ?_, ?_, ?_⟩
          · rw [u32s_set, hlI]
            exact (World.ownsRow.stored (w := wr.drewN nq) HO.out k _).1
          · intro z hz
            rcases List.mem_or_eq_of_mem_set hz with hz | hz
            · exact HZB.out z hz
            · rw [hz]; exact hl0
          · rw [val_take_set _ _ _ _ (by rw [HZL.out]; omega), HV1.out, HV2.out]
            exact sub_step _ _ _ _ _ X Y br l 0 HV.out (by omega)
          · intro j hj
            rw [List.getD, List.getElem?_set_ne (by omega)]
            exact HZ.out j (by omega)
        case measure => simp [intOf]; omega
      · have hsm : 1000000000 + (X : Int) - (Y : Int) - (br : Int) < 1000000000 := by omega
        have hd : decide ((1000000000 : Int) ≤ 1000000000 + (X : Int) - (Y : Int) - (br : Int)) = false := by simp; omega
        clear hbig
        go_wp2_with fail
        go_quiet ((go_at_call 57; exact quiet_left (HC2.out _)))
        go_wp2
        go_roundw
        case rel =>
          obtain ⟨l, hll⟩ : ∃ l : Nat, 1000000000 + (X : Int) - (Y : Int) - (br : Int) = (l : Int) := ⟨1000000000 + X - Y - br, by omega⟩
          have hl0 : l < 1000000000 := by omega
          refine ⟨k + 1, 1, zs.set k l, by omega, by go_num, rfl, by omega, ?_, (HBW.out.of_drewN _).setCell (Nat.le_refl _) _, by simpa using HZL.out, ?_, ?_, ?_⟩
          · rw [u32s_set, ← hll]
            exact (World.ownsRow.stored (w := wr.drewN nq) HO.out k _).1
          · intro z hz
            rcases List.mem_or_eq_of_mem_set hz with hz | hz
            · exact HZB.out z hz
            · rw [hz]; exact hl0
          · rw [val_take_set _ _ _ _ (by rw [HZL.out]; omega), HV1.out, HV2.out]
            exact sub_step _ _ _ _ _ X Y br l 1 HV.out (by omega)
          · intro j hj
            rw [List.getD, List.getElem?_set_ne (by omega)]
            exact HZ.out j (by omega)
        case measure => simp [intOf]; omega
    · obtain rfl : k = N := by omega
      clear hcell
      go_wp2_with fail
      have hlim : OwnS wr g (some ⟨g, 0, none⟩) k k zs := ⟨HO.out, by omega, fun z hz => by have := HZB.out z hz; omega⟩
      have hfin : trim zs = digs 1000000000 (val 1000000000 xs - val 1000000000 ys) := by
        rw [trim_eq_digs 1000000000 (by omega) _ HZB.out]
        congr 1
        have e1 := HV.out
        have e2 := val_lt 1000000000 zs HZB.out
        rw [List.take_of_length_le (by rw [HZL.out]; exact Nat.le_refl _), val_take_all _ xs k (by have := HN.out; omega), val_take_all _ ys k (by omega)] at e1
        rw [HZL.out] at e2
        have e3 := HGE.out
        exact sub_last _ _ _ _ _ e1 e2 e3 hbr
      refine (trim_c _ _ _ zs _ hlim.limbs (by omega)).mono ?_
      rintro e w' ⟨A1, m1, c1, rfl, ho1, hb1⟩
      have hsz0 : g0 ≤ g := by have e := Hg.out; have e' := Hg0.out; have := HB1.out.size; omega
      have hsz : g ≤ wr.heap.size := by have := HBW.out.size; have e := Hg.out; omega
      have HF1 := Lib.hid (ho1.weaken (Nat.le_trans hsz0 hsz))
      have HF2 := Lib.hid (HB1.out.trans ((HBW.out.trans (hb1.mono hsz)).mono hsz0))
      have HF3 := Lib.hid hfin
      clear ho1 hb1 hfin hlim
      go_wp2
      go_ret2
      exact ⟨A1, m1, c1, rfl, by rw [← HF3.out]; exact HF1.out, HF2.out⟩
end Go.Proofs.YtekanlcfgfllcaaDoor
/- Mul1 -/
namespace Go.Proofs.YtekanlcfgfllcaaDoor
open Go.RowKit
theorem reads_at {w : World} {B n k : Nat} {A : Option Addr} {xs : List Nat} (h : Reads w B 1 A n (u32s xs)) (hk : k < n) : ∃ ad, A = some ad ∧ ad.block < B ∧ w.cell? (ad.add k) = some (.int .u32 ((xs.getD k 0 : Nat) : Int)) := by
  obtain ⟨ad, u, e, hb, hx, hc⟩ := h.at_ hk
  have hl : k < xs.length := by have := h.1; simp [u32s_length] at this; omega
  rw [u32s_get, List.getElem?_eq_getElem hl] at hx
  simp at hx
  subst hx
  refine ⟨ad, e, hb, ?_⟩
  rw [hc]; simp [List.getD, List.getElem?_eq_getElem hl]
theorem own_at {w : World} {base g N : Nat} {zs : List Nat} (h : w.ownsRow base 49 1 (.slice (some ⟨g, 0, none⟩) N N) N (u32s zs)) {j : Nat} (hj : j < N) : w.cell? ⟨g, j, none⟩ = some (.int .u32 ((zs.getD j 0 : Nat) : Int)) := by
  have hl : zs.length = N := by have := h.1; simpa [u32s_length] using this
  rw [h.cellAt j (by omega), u32s_get, List.getElem?_eq_getElem (by omega)]
  simp [List.getD, List.getElem?_eq_getElem (show j < zs.length by omega)]
theorem limb_prod {X y : Nat} (hx : X < 1000000000) (hy : y < 1000000000) : X * y ≤ 999999998000000001 :=
  Nat.mul_le_mul (show X ≤ 999999999 by omega) (show y ≤ 999999999 by omega)
set_option maxHeartbeats 1000000 in
set_option maxRecDepth 100000 in
theorem addTimes_c (g off L N : Nat) (zs : List Nat) (A : Option Addr) (m c : Nat) (xs : List Nat) (y : Nat) (w : World) (hN : off + L = N) (hN2 : N ≤ 1000000000) (hm : m < L)
    (hown : w.ownsRow g 49 1 (.slice (some ⟨g, 0, none⟩) N N) N (u32s zs)) (hR : Reads w g 1 A m (u32s xs)) (gx : ∀ x ∈ xs, x < 1000000000) (gz : ∀ z ∈ zs, z < 1000000000) (hy : y < 1000000000)
    (hz0 : m = 0 ∨ zs.getD (off + m) 0 = 0) :
    Calls Tryd.prog 55 #[.slice (some ⟨g, off, none⟩) L L, .slice A m c, .int .u32 (y : Int)] w fun e w' =>
      ∃ zs' : List Nat, e = .returned (.tuple #[]) ∧ w'.ownsRow g 49 1 (.slice (some ⟨g, 0, none⟩) N N) N (u32s zs') ∧ Below g w w' ∧ zs'.length = N ∧ (∀ z ∈ zs', z < 1000000000) ∧
        val 1000000000 zs' = val 1000000000 zs + 1000000000 ^ off * (y * val 1000000000 xs) ∧ ∀ j, off + m < j → zs'.getD j 0 = zs.getD j 0 := by
  have hzl : zs.length = N := by have := hown.1; simpa [u32s_length] using this
  have hxl : xs.length = m := by have := hR.1; simpa [u32s_length] using this
  have HZL := Lib.hid hzl
  have HXL := Lib.hid hxl
  have HO0 := Lib.hid hown
  have HR := Lib.hid hR
  have GX := Lib.hid gx
  have GZ := Lib.hid gz
  have HZ0 := Lib.hid hz0
  clear hzl hxl hown hR gx gz hz0
  have HN := Lib.hid hN
  have hNle : off + L ≤ 1000000000 := by omega
  clear hN hN2
  go_enter Tryd.func55, Tryd.ntmps55
  go_wp2
  go_loopw [6, 7, 8, 9, 12] (fun cy _ _ _ i wr => ∃ (k cr : Nat) (us : List Nat), k ≤ m ∧ i = .int .i64 k ∧ cy = .int .u64 (cr : Int) ∧ cr < 1000000000 ∧ (k = 0 → cr = 0) ∧
      wr.ownsRow g 49 1 (.slice (some ⟨g, 0, none⟩) N N) N (u32s us) ∧ Below g w wr ∧ us.length = N ∧ (∀ z ∈ us, z < 1000000000) ∧
      val 1000000000 us + 1000000000 ^ (off + k) * cr = val 1000000000 zs + 1000000000 ^ off * (y * val 1000000000 (xs.take k)) ∧ (∀ j, off + k ≤ j → us.getD j 0 = zs.getD j 0)) (fun _ _ _ _ i _ => m - (intOf i).toNat)
  case atStart => exact ⟨0, 0, zs, Nat.zero_le _, rfl, rfl, by omega, fun _ => rfl, HO0.out, Below.refl _ _, HZL.out, GZ.out, by simp [val], fun _ _ => rfl⟩
  case round =>
    obtain ⟨k, cr, us, hk, rfl, rfl, hcr, hk0, hown0, hbw0, hul0, hub0, hval0, hzz0⟩ := hrel
    have HK0 := Lib.hid hk0
    have HO := Lib.hid hown0
    have HBW := Lib.hid hbw0
    have HUL := Lib.hid hul0
    have HUB := Lib.hid hub0
    have HV := Lib.hid hval0
    have HZ := Lib.hid hzz0
    have hcell : wr.cell? ⟨g, off + k, none⟩ = some (.int .u32 ((us.getD (off + k) 0 : Nat) : Int)) := own_at HO.out (by have := HN.out; omega)
    have hfr : wr.frozen? ⟨g, off + k, none⟩ = false := HO.out.frozenAt (off + k)
    have hZ1 := getD_lt 1000000000 (by omega) us hub0 (off + k)
    have hst := Lib.hid fun l => val_set 1000000000 us (off + k) l (by rw [hul0, ← HN.out]; omega)
    have hZz := Lib.hid (hzz0 (off + k) (Nat.le_refl _))
    clear hk0 hown0 hbw0 hul0 hub0 hval0 hzz0
    generalize us.getD (off + k) 0 = Z at hcell hZ1 hst hZz
    by_cases hlt : k < m
    · obtain ⟨ad, rfl, hb, hc⟩ := reads_at (HR.out.below HBW.out) hlt
      have hX1 := getD_lt 1000000000 (by omega) xs GX.out k
      have hv1 := Lib.hid (val_take_succ 1000000000 xs k)
      generalize xs.getD k 0 = X at hc hX1 hv1
      have hp := limb_prod hX1 hy
      have hpI : (X : Int) * (y : Int) ≤ 999999998000000001 := by rw [← Int.natCast_mul]; omega
      have hpI0 : 0 ≤ (X : Int) * (y : Int) := by rw [← Int.natCast_mul]; omega
      go_wp2
      go_roundw
      case rel =>
        have hd : (X * y + Z + cr) / 1000000000 < 1000000000 := by omega
        have hml : (X * y + Z + cr) % 1000000000 < 1000000000 := by omega
        have hcast : (X : Int) * (y : Int) = ((X * y : Nat) : Int) := by simp
        refine ⟨k + 1, (X * y + Z + cr) / 1000000000, us.set (off + k) ((X * y + Z + cr) % 1000000000), by omega, by go_num, by rw [hcast]; congr 1, hd, by omega, ?_, HBW.out.setCell (Nat.le_refl _) _, by simpa using HUL.out, ?_, ?_, ?_⟩
        · rw [u32s_set]
          rw [hcast]
          exact (HO.out.stored (off + k) _).1
        · intro z hz
          rcases List.mem_or_eq_of_mem_set hz with hz | hz
          · exact HUB.out z hz
          · rw [hz]; exact hml
        · rw [hv1.out]
          exact row_step 1000000000 off k _ y X Z cr _ _ _ _ _ (hst.out _) HV.out (by omega)
        · intro j hj
          rw [getD_set_ne _ _ _ _ (by omega)]
          exact HZ.out j (by omega)
      case measure => simp [intOf]; omega
    · obtain rfl : k = m := by omega
      have hzs : Z + cr < 1000000000 := by
        rcases HZ0.out with h0 | h0
        · have := HK0.out h0; omega
        · have := hZz.out; omega
      go_wp2
      go_end0
      refine ⟨us.set (off + k) (Z + cr), rfl, ?_, HBW.out.setCell (Nat.le_refl _) _, by simpa using HUL.out, ?_, ?_, ?_⟩
      · rw [u32s_set]
        exact (HO.out.stored (off + k) _).1
      · intro z hz
        rcases List.mem_or_eq_of_mem_set hz with hz | hz
        · exact HUB.out z hz
        · rw [hz]; exact hzs
      · have hv := HV.out
        rw [List.take_of_length_le (by rw [HXL.out]; exact Nat.le_refl _)] at hv
        exact row_end 1000000000 off k _ y Z cr _ _ _ (hst.out _) hv
      · intro j hj
        rw [getD_set_ne _ _ _ _ (by omega)]
        exact HZ.out j (by omega)
end Go.Proofs.YtekanlcfgfllcaaDoor
/- Mul2 -/
namespace Go.Proofs.YtekanlcfgfllcaaDoor
open Go.RowKit
/-- A row of the call's own, trimmed, is the answer. -/
theorem trim_own (g N : Nat) (us : List Nat) (V : Nat) (w0 w : World) (hown : w.ownsRow g 49 1 (.slice (some ⟨g, 0, none⟩) N N) N (u32s us)) (hN : N ≤ 1000000000) (hb : Below g w0 w) (hg : w0.heap.size = g)
    (hu : ∀ z ∈ us, z < 1000000000) (hv : val 1000000000 us = V) :
    Calls Tryd.prog 47 #[.slice (some ⟨g, 0, none⟩) N N] w fun e w' => ∃ A' m c', e = .returned (.slice A' m c') ∧ OwnS w' g A' m c' (digs 1000000000 V) ∧ Below g w0 w' := by
  have hlim : OwnS w g (some ⟨g, 0, none⟩) N N us := ⟨hown, by omega, fun z hz => by have := hu z hz; omega⟩
  refine (trim_c _ _ _ us w hlim.limbs (by omega)).mono ?_
  rintro e w' ⟨A1, m1, c1, rfl, ho1, hb1⟩
  have hsz : g ≤ w.heap.size := by have := hb.size; omega
  rw [trim_eq_digs 1000000000 (by omega) _ hu, hv] at ho1
  exact ⟨A1, m1, c1, rfl, ho1.weaken hsz, hb.trans (hb1.mono hsz)⟩
set_option maxHeartbeats 1000000 in
set_option maxRecDepth 100000 in
theorem small_c (A : Option Addr) (n c : Nat) (xs : List Nat) (y z : Nat) (w : World) (h : Limbs w A n xs) (gx : ∀ x ∈ xs, x < 1000000000) (hn : n ≤ 900000000) (hy : y < 1000000000) (hz : z < 1000000000) :
    Calls Tryd.prog 25 #[.slice A n c, .int .u32 (y : Int), .int .u32 (z : Int)] w fun e w' => ∃ A' m c', e = .returned (.slice A' m c') ∧ OwnS w' w.heap.size A' m c' (digs 1000000000 (val 1000000000 xs * y + z)) ∧ Below w.heap.size w w' := by
  obtain ⟨i0, hi, hz0, hz1, hz2⟩ := info_parts u32_info
  have H := Lib.hid h
  have GX := Lib.hid gx
  clear h gx
  go_enter Tryd.func25, Tryd.ntmps25
  go_wp2_with (at_make; refine wpList_make_full _ rfl _ _ 39 rfl w.heap.size 49 i0 (.int .u32 0) 1 Tryd.underlying39 hi hz0 hz1 _ _ _ _ (n + 1) rfl rfl ?b0 ?b1 ?b2 ?b3 (Nat.le_refl _) ?_)
  case b0 => omega
  case b1 => omega
  case b2 => rw [hz2]; omega
  case b3 => unfold maxLen; omega
  intro w1 hown hgrow
  rw [made_u32] at hown
  have hb1 : Below w.heap.size w w1 := (Below.refl _ _).grown hgrow (Nat.le_refl _) (fun k hk => by cases hk)
  have W0 := Lib.hid hown
  have HB1 := Lib.hid hb1
  have hR := Lib.hid (H.out.1.below hb1)
  generalize hg : w.heap.size = g at W0 HB1 hR
  have Hg := Lib.hid hg
  have hcell : w1.cell? ⟨g, 0, none⟩ = some (.int .u32 0) := own_at W0.out (j := 0) (by omega)
  have hfr : w1.frozen? ⟨g, 0, none⟩ = false := W0.out.frozenAt 0
  clear hown hb1 hgrow hg
  go_wp2_with fail
  have hown2 := (W0.out.stored 0 (.int .u32 (z : Int))).1
  rw [← u32s_set] at hown2
  have hst := val_set 1000000000 (List.replicate (n + 1) 0) 0 z (by simp)
  rw [val_replicate, getD_replicate, Nat.pow_zero, Nat.one_mul, Nat.one_mul, Nat.zero_add, Nat.add_zero] at hst
  have gz : ∀ u ∈ (List.replicate (n + 1) 0).set 0 z, u < 1000000000 := by
    intro u hu
    rcases List.mem_or_eq_of_mem_set hu with hu | hu
    · rw [List.eq_of_mem_replicate hu]; omega
    · omega
  have hz00 : n = 0 ∨ ((List.replicate (n + 1) 0).set 0 z).getD (0 + n) 0 = 0 := by
    rcases Nat.eq_zero_or_pos n with h0 | h0
    · exact .inl h0
    · refine .inr ?_
      rw [getD_set_ne _ _ _ _ (by omega), getD_replicate]
  have CC := addTimes_c g 0 (n + 1) (n + 1) _ A n c xs y _ (by omega) (by omega) (by omega) hown2 (hR.out.setCell (Nat.le_refl _) _) GX.out gz hy hz00
  rw [hst] at CC
  have HB2 := Lib.hid (HB1.out.setCell (p := ⟨g, 0, none⟩) (Nat.le_refl _) (.int .u32 (z : Int)))
  have HC := Lib.hid CC
  clear CC hst gz hz00 hown2
  refine HC.out.mono ?_
  rintro e w3 ⟨us, rfl, hown3, hb3, hul, hub, hval, -⟩
  have HO3 := Lib.hid hown3
  have HB3 := Lib.hid (HB2.out.trans hb3)
  have HUB := Lib.hid hub
  have HV := Lib.hid (show val 1000000000 us = val 1000000000 xs * y + z by rw [hval, Nat.pow_zero, Nat.one_mul, Nat.mul_comm y, Nat.add_comm])
  clear hown3 hb3 hub hval hul HC hcell hfr
  go_wp2_with fail
  refine (trim_own g (n + 1) us _ w w3 HO3.out (by omega) HB3.out Hg.out HUB.out HV.out).mono ?_
  rintro e w4 ⟨A4, m4, c4, rfl, ho, hb⟩
  have HO := Lib.hid ho
  have HB := Lib.hid hb
  clear ho hb
  go_wp2
  go_ret
  exact ⟨A4, m4, c4, rfl, by rw [Hg.out]; exact HO.out, by rw [Hg.out]; exact HB.out⟩
set_option maxHeartbeats 1000000 in
set_option maxRecDepth 100000 in
theorem mul_c (A A' : Option Addr) (n c n' c' : Nat) (xs ys : List Nat) (w : World) (h : Limbs w A n xs) (h' : Limbs w A' n' ys) (gx : ∀ x ∈ xs, x < 1000000000) (gy : ∀ y ∈ ys, y < 1000000000)
    (hn : n ≤ 100000000) (hn' : n' ≤ 100000000) :
    Calls Tryd.prog 30 #[.slice A n c, .slice A' n' c'] w fun e w' => ∃ A1 m1 c1, e = .returned (.slice A1 m1 c1) ∧
      OwnS w' w.heap.size A1 m1 c1 (digs 1000000000 (val 1000000000 xs * val 1000000000 ys)) ∧ Below w.heap.size w w' := by
  obtain ⟨i0, hi, hz0, hz1, hz2⟩ := info_parts u32_info
  have H := Lib.hid h
  have H' := Lib.hid h'
  have GX := Lib.hid gx
  have GY := Lib.hid gy
  clear h h' gx gy
  go_enter Tryd.func30, Tryd.ntmps30
  go_wp2_with fail
  refine (trim_c A n c xs w H.out (by omega)).mono ?_
  rintro e w1 ⟨A1, m1, c1, rfl, ho, hb⟩
  have hm1 : m1 ≤ 100000000 := by have e := ho.len; have := tz_le xs; have := H.out.len; rw [trim_length] at e; omega
  have O1 := Lib.hid ho
  have B := Lib.hid hb
  clear ho hb
  go_wp2_with fail
  refine (trim_c A' n' c' ys w1 (H'.out.below B.out) (by omega)).mono ?_
  rintro e w2 ⟨A2, m2, c2, rfl, ho, hb⟩
  have hm2 : m2 ≤ 100000000 := by have e := ho.len; have := tz_le ys; have := H'.out.len; rw [trim_length] at e; omega
  replace O1 := Lib.hid (O1.out.keep hb rfl)
  have O2 := Lib.hid ho
  replace B := Lib.hid (B.out.trans (hb.mono B.out.size))
  clear ho hb
  have GXS := Lib.hid (show ∀ x ∈ trim xs, x < 1000000000 from fun x hx => GX.out x (List.mem_of_mem_take hx))
  have GYS := Lib.hid (show ∀ x ∈ trim ys, x < 1000000000 from fun x hx => GY.out x (List.mem_of_mem_take hx))
  have hvx := val_trim 1000000000 xs
  have hvy := val_trim 1000000000 ys
  have E1 := Lib.hid hvx
  have E2 := Lib.hid hvy
  clear hvx hvy
  generalize trim xs = XS at O1 GXS E1
  generalize trim ys = YS at O2 GYS E2
  obtain ⟨N, hN⟩ : ∃ N : Nat, N = m1 + m2 := ⟨_, rfl⟩
  have HNI := Lib.hid (show (m1 : Int) + (m2 : Int) = (N : Int) by omega)
  have hN1 : N ≤ 200000000 := by omega
  have hN2 : m1 + m2 ≤ N := by omega
  have HN := Lib.hid hN
  clear hN
  go_wp2_with (at_make; refine wpList_make_full _ rfl _ _ 39 rfl w2.heap.size 49 i0 (.int .u32 0) 1 Tryd.underlying39 hi hz0 hz1 _ _ _ _ N rfl rfl ?b0 ?b1 ?b2 ?b3 (Nat.le_refl _) ?_)
  case b0 => have := HNI.out; omega
  case b1 => have := HNI.out; omega
  case b2 => rw [hz2]; omega
  case b3 => unfold maxLen; omega
  rw [HNI.out]
  intro w3 hown hgrow
  rw [made_u32] at hown
  have hb3 : Below w2.heap.size w2 w3 := (Below.refl _ _).grown hgrow (Nat.le_refl _) (fun k hk => by cases hk)
  have W0 := Lib.hid hown
  have HB3 := Lib.hid hb3
  have hR1 := Lib.hid O1.out.limbs.1
  have hR2 := Lib.hid O2.out.limbs.1
  generalize hg : w2.heap.size = g at W0 HB3 hR1 hR2
  have Hg := Lib.hid hg
  have hwg : w.heap.size ≤ g := by have := B.out.size; omega
  have L1 := Lib.hid O1.out.len
  have L2 := Lib.hid O2.out.len
  clear hown hb3 hgrow hg
  go_wp2_with fail
  go_loopw [6, 7, 20] (fun _ _ i wr => ∃ (k : Nat) (us : List Nat), k ≤ m1 ∧ i = .int .i64 k ∧ wr.ownsRow g 49 1 (.slice (some ⟨g, 0, none⟩) N N) N (u32s us) ∧ Below g w2 wr ∧ us.length = N ∧ (∀ z ∈ us, z < 1000000000) ∧
      val 1000000000 us = val 1000000000 (XS.take k) * val 1000000000 YS ∧ (∀ j, k + m2 ≤ j → us.getD j 0 = 0)) (fun _ _ i _ => m1 - (intOf i).toNat)
  case atStart =>
    refine ⟨0, List.replicate N 0, Nat.zero_le _, rfl, W0.out, HB3.out, by simp, ?_, by simp [val_replicate, val], fun j _ => getD_replicate _ _⟩
    intro z hz; rw [List.eq_of_mem_replicate hz]; omega
  case round =>
    obtain ⟨k, us, hk, rfl, hown0, hbw0, hul0, hub0, hval0, hzz0⟩ := hrel
    have HO := Lib.hid hown0
    have HBW := Lib.hid hbw0
    have HUL := Lib.hid hul0
    have HUB := Lib.hid hub0
    have HV := Lib.hid hval0
    have HZ := Lib.hid hzz0
    clear hown0 hbw0 hul0 hub0 hval0 hzz0
    by_cases hlt : k < m1
    · obtain ⟨ad, rfl, hb, hc⟩ := reads_at (hR1.out.below HBW.out) hlt
      have hX1 := getD_lt 1000000000 (by omega) XS GXS.out k
      have hv1 := Lib.hid (val_take_succ 1000000000 XS k)
      generalize XS.getD k 0 = X at hc hX1 hv1
      have hkN : k < N := by omega
      have CC := Lib.hid (addTimes_c g k (N - k) N us A2 m2 c2 YS X wr (by omega) (by omega) (by omega) HO.out (hR2.out.below HBW.out) GYS.out HUB.out hX1 (.inr (HZ.out _ (Nat.le_refl _))))
      go_wp2_with fail
      refine CC.out.mono ?_
      rintro e w4 ⟨us', rfl, hown4, hb4, hul4, hub4, hval4, hzz4⟩
      have HO4 := Lib.hid hown4
      have HB4 := Lib.hid (HBW.out.trans hb4)
      have HUL4 := Lib.hid hul4
      have HUB4 := Lib.hid hub4
      have HV4 := Lib.hid hval4
      have HZ4 := Lib.hid hzz4
      clear hown4 hb4 hul4 hub4 hval4 hzz4 CC
      go_wp2
      go_roundw
      case rel =>
        refine ⟨k + 1, us', by omega, by go_num, HO4.out, HB4.out, HUL4.out, HUB4.out, ?_, fun j hj => ?_⟩
        · rw [HV4.out, HV.out, hv1.out, Nat.add_mul, Nat.mul_assoc]
        · rw [HZ4.out j (by omega), HZ.out j (by omega)]
      case measure => simp [intOf]; omega
    · obtain rfl : k = m1 := by omega
      go_wp2_with fail
      refine (trim_own g N us _ w2 wr HO.out (by omega) HBW.out Hg.out HUB.out HV.out).mono ?_
      rintro e w4 ⟨A4, m4, c4, rfl, ho, hb⟩
      rw [List.take_of_length_le (by rw [L1.out]; exact Nat.le_refl _), E1.out, E2.out] at ho
      have HOO := Lib.hid (ho.weaken hwg)
      have HBB := Lib.hid (B.out.trans (hb.mono hwg))
      clear ho hb
      go_wp2
      go_ret
      exact ⟨A4, m4, c4, rfl, HOO.out, HBB.out⟩
end Go.Proofs.YtekanlcfgfllcaaDoor
