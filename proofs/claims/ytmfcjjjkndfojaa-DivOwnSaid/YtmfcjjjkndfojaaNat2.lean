import Derived.Test.YtmfcjjjkndfojaaNat1
namespace Go.Proofs.Ytmfcjjjkndfojaa
open Go.RowKit
set_option maxHeartbeats 400000 in
theorem same_c (A A' : Option Addr) (n c n' c' : Nat) (xs ys : List Nat) (w : World) (h : Limbs w A n xs) (h' : Limbs w A' n' ys) :
    Calls Try.prog 13 #[.slice A n c, .slice A' n' c'] w fun e w' => e = .returned (.bool (decide (xs = ys))) ∧ Below w.heap.size w w' := by
  have hn := h.2.1
  have hn' := h'.2.1
  have hl := Lib.hid h.len
  have hl' := Lib.hid h'.len
  have H := Lib.hid h
  have H' := Lib.hid h'
  clear h h'
  by_cases hne : n = n'
  · subst hne
    go_enter Try.func13, Try.ntmps13
    go_wp2
    go_loopw [5] (fun i wr => ∃ k m : Nat, k ≤ n ∧ i = .int .i64 k ∧ wr = w.drewN m ∧ ∀ j, j < k → xs.getD j 0 = ys.getD j 0) (fun i _ => n - (intOf i).toNat)
    case atStart => exact ⟨0, 0, Nat.zero_le _, rfl, rfl, fun j hj => absurd hj (by omega)⟩
    case round =>
      obtain ⟨k, m, hk, rfl, rfl, hall0⟩ := hrel
      have hall := Lib.hid hall0
      clear hall0
      by_cases hlt : k < n
      · obtain ⟨ad, rfl, hb, hc, hx⟩ := H.out.at_ hlt
        obtain ⟨ad', rfl, hb', hc', hx'⟩ := H'.out.at_ hlt
        go_wp2
        go_quiet (fail)
        go_wp2
        · have hd : (((xs[k]?.getD 0 : Nat) : Int) != ((ys[k]?.getD 0 : Nat) : Int)) = true := by assumption
          go_ret
          refine ⟨?_, ((Below.refl _ _).of_drewN _).of_drewN _⟩
          have : decide (xs = ys) = false := by
            simp only [decide_eq_false_iff_not]
            rintro rfl
            simp at hd
          rw [this]; rfl
        · have hd : (((xs[k]?.getD 0 : Nat) : Int) != ((ys[k]?.getD 0 : Nat) : Int)) = false := by assumption
          go_roundw
          case rel =>
            refine ⟨k + 1, _, by omega, by go_num, rfl, fun j hj => ?_⟩
            rcases Nat.lt_or_ge j k with hjk | hjk
            · exact hall.out j hjk
            · obtain rfl : j = k := by omega
              rw [List.getD, List.getD]
              have : ((xs[j]?.getD 0 : Nat) : Int) = ((ys[j]?.getD 0 : Nat) : Int) := by simpa using hd
              omega
          case measure => simp [intOf]; omega
      · go_wp2
        go_ret
        refine ⟨?_, (Below.refl _ _).of_drewN _⟩
        have : decide (xs = ys) = true := by
          simp only [decide_eq_true_eq]
          exact list_ext_getD (by rw [hl.out, hl'.out]) (fun j hj => hall.out j (by rw [hl.out] at hj; omega))
        rw [this]; rfl
  · have hb : (((n : Nat) : Int) != (n' : Int)) = true := by simp; omega
    go_enter Try.func13, Try.ntmps13
    go_wp2
    go_ret
    refine ⟨?_, Below.refl _ _⟩
    have : decide (xs = ys) = false := by
      simp only [decide_eq_false_iff_not]
      intro e; apply hne; rw [← hl.out, ← hl'.out, e]
    rw [this]; rfl
set_option maxHeartbeats 400000 in
set_option maxRecDepth 100000 in
theorem natGood_c (A : Option Addr) (n c : Nat) (xs : List Nat) (w : World) (h : Limbs w A n xs) :
    Calls Try.prog 21 #[.slice A n c] w fun e w' => e = .returned (.bool (xs.all (fun x => decide (x ≤ 999999999)))) ∧ w = w' := by
  have hn := h.2.1
  have hl := Lib.hid h.len
  have H := Lib.hid h
  clear h
  go_enter Try.func21, Try.ntmps21
  go_wp2
  go_loop [4, 7] (fun _ i => ∃ k : Nat, k ≤ n ∧ i = .int .i64 k ∧ ∀ j, j < k → xs.getD j 0 ≤ 999999999) (fun _ i => n - (intOf i).toNat)
  case atStart => exact ⟨0, Nat.zero_le _, rfl, fun j hj => absurd hj (by omega)⟩
  case round =>
    obtain ⟨k, hk, rfl, hall0⟩ := hrel
    have hall := Lib.hid hall0
    clear hall0
    by_cases hlt : k < n
    · obtain ⟨ad, rfl, hb, hc, hx⟩ := H.out.at_ hlt
      by_cases hbig : (1000000000 : Int) ≤ ((xs[k]?.getD 0 : Nat) : Int)
      · have h1 := Lib.hid hbig
        go_wp2
        go_ret
        refine ⟨?_, rfl⟩
        have : xs.all (fun x => decide (x ≤ 999999999)) = false := by
          rw [List.all_eq_false]
          have hlt' : k < xs.length := by rw [hl.out]; exact hlt
          refine ⟨xs[k], List.getElem_mem hlt', ?_⟩
          have h2 := h1.out
          rw [List.getElem?_eq_getElem hlt', Option.getD_some] at h2
          simp; omega
        rw [this]; rfl
      · have h1 := Lib.hid hbig
        go_wp2
        go_round
        case rel =>
          refine ⟨k + 1, by omega, by go_num, fun j hj => ?_⟩
          rcases Nat.lt_or_ge j k with hjk | hjk
          · exact hall.out j hjk
          · obtain rfl : j = k := by omega
            have h2 := h1.out
            rw [List.getD]; omega
        case measure => simp [intOf]; omega
    · go_wp2
      go_ret
      refine ⟨?_, rfl⟩
      have : xs.all (fun x => decide (x ≤ 999999999)) = true := by
        rw [List.all_eq_true]
        intro x hx
        obtain ⟨j, hj, rfl⟩ := List.mem_iff_getElem.1 hx
        have := hall.out j (by rw [hl.out] at hj; omega)
        rw [List.getD, List.getElem?_eq_getElem hj, Option.getD_some] at this
        simpa using this
      rw [this]; rfl
/-- What Cmp answers. -/
def cmpI (a b : Nat) : Int := if a < b then -1 else if b < a then 1 else 0
theorem cmpI_of_lt {a b : Nat} (h : a < b) : cmpI a b = -1 := by simp [cmpI, h]
theorem cmpI_of_gt {a b : Nat} (h : b < a) : cmpI a b = 1 := by rw [cmpI, if_neg (by omega), if_pos h]
theorem cmpI_of_eq {a b : Nat} (h : a = b) : cmpI a b = 0 := by rw [cmpI, if_neg (by omega), if_neg (by omega)]
theorem compareU32_lt (x y : Int) (w : World) (h : x < y) : Calls Try.prog 31 #[.int .u32 x, .int .u32 y] w fun e w' => e = .returned (.int .i64 (-1)) ∧ w = w' :=
  (compareU32_c x y w).mono fun e w' ⟨h1, h2⟩ => ⟨by rw [h1, if_pos h], h2⟩
theorem compareU32_eq (x y : Int) (w : World) (h : x = y) : Calls Try.prog 31 #[.int .u32 x, .int .u32 y] w fun e w' => e = .returned (.int .i64 0) ∧ w = w' :=
  (compareU32_c x y w).mono fun e w' ⟨h1, h2⟩ => ⟨by rw [h1, if_neg (by omega), if_neg (by omega)], h2⟩
theorem compareU32_gt (x y : Int) (w : World) (h : y < x) : Calls Try.prog 31 #[.int .u32 x, .int .u32 y] w fun e w' => e = .returned (.int .i64 1) ∧ w = w' :=
  (compareU32_c x y w).mono fun e w' ⟨h1, h2⟩ => ⟨by rw [h1, if_neg (by omega), if_pos h], h2⟩
set_option maxHeartbeats 400000 in
theorem cmp_c (A A' : Option Addr) (n c n' c' : Nat) (xs ys : List Nat) (w : World) (h : Limbs w A n xs) (h' : Limbs w A' n' ys) (gx : ∀ x ∈ xs, x < 1000000000) (gy : ∀ y ∈ ys, y < 1000000000) :
    Calls Try.prog 22 #[.slice A n c, .slice A' n' c'] w fun e w' => e = .returned (.int .i64 (cmpI (val 1000000000 xs) (val 1000000000 ys))) ∧ Below w.heap.size w w' := by
  have hn := h.2.1
  have hn' := h'.2.1
  have hl := Lib.hid h.len
  have hl' := Lib.hid h'.len
  have htx := tz_le xs
  have hty := tz_le ys
  rw [hl.out] at htx
  rw [hl'.out] at hty
  have H := Lib.hid h
  have H' := Lib.hid h'
  have GX := Lib.hid gx
  have GY := Lib.hid gy
  clear h h' gx gy
  rcases Nat.lt_trichotomy (tz xs) (tz ys) with hc | hc | hc
  · have hbs : ((tz xs : Nat) : Int) < ((tz ys : Nat) : Int) := by omega
    have hfin := Lib.hid (cmpI_of_lt (val_lt_of_tz 1000000000 (by omega) xs ys GX.out hc))
    go_enter Try.func22, Try.ntmps22
    go_wp2_with fail
    refine (size_c A n c xs w H.out).mono ?_
    rintro e w' ⟨rfl, rfl⟩
    go_wp2_with fail
    refine (size_c A' n' c' ys w H'.out).mono ?_
    rintro e w' ⟨rfl, rfl⟩
    go_wp2_with fail
    refine (compareInt_c _ _ w).mono ?_
    rintro e w' ⟨rfl, rfl⟩
    go_wp2
    go_ret
    exact ⟨by rw [hfin.out]; rfl, Below.refl _ _⟩
  · have hbe : ((tz xs : Nat) : Int) = ((tz ys : Nat) : Int) := by omega
    have hb1 : ((((tz xs : Nat) : Int)) != 0) = true ∨ tz xs = 0 := by simp; omega
    have HC := Lib.hid hc
    clear hc
    have hif0 : (if ((tz xs : Nat) : Int) < ((tz ys : Nat) : Int) then (-1 : Int) else if ((tz ys : Nat) : Int) < ((tz xs : Nat) : Int) then 1 else 0) = 0 := by
      rw [if_neg (by omega), if_neg (by omega)]
    have hif := Lib.hid hif0
    clear hbe hb1 hif0
    go_enter Try.func22, Try.ntmps22
    go_wp2_with fail
    refine (size_c A n c xs w H.out).mono ?_
    rintro e w' ⟨rfl, rfl⟩
    go_wp2_with fail
    refine (size_c A' n' c' ys w H'.out).mono ?_
    rintro e w' ⟨rfl, rfl⟩
    go_wp2_with fail
    refine (compareInt_c _ _ w).mono ?_
    rw [hif.out]
    rintro e w' ⟨rfl, rfl⟩
    go_wp2_with fail
    go_loopw [7] (fun i wr => ∃ k m : Nat, k ≤ tz xs ∧ i = .int .i64 ((k : Int) - 1) ∧ wr = w.drewN m ∧ ∀ j, k ≤ j → xs.getD j 0 = ys.getD j 0) (fun i _ => (intOf i + 1).toNat)
    case atStart => exact ⟨tz xs, 0, Nat.le_refl _, rfl, rfl, fun j hj => by rw [tz_above xs j hj, tz_above ys j (by have := HC.out; omega)]⟩
    case round =>
      obtain ⟨k, m, hk, rfl, rfl, hall0⟩ := hrel
      have hall := Lib.hid hall0
      clear hall0
      rcases k with _ | k
      · go_wp2
        go_ret
        refine ⟨?_, (Below.refl _ _).of_drewN _⟩
        rw [cmpI_of_eq (val_congr _ _ _ fun j => hall.out j (Nat.zero_le _))]
        rfl
      · obtain ⟨ad, rfl, hb, hcl, hx⟩ := H.out.at_ (k := k) (by omega)
        obtain ⟨ad', rfl, hb', hcl', hx'⟩ := H'.out.at_ (k := k) (by have := HC.out; omega)
        rw [show ((k + 1 : Nat) : Int) - 1 = (k : Int) from by omega]
        have hkn : k < n := by omega
        have hkn' : k < n' := by have := HC.out; omega
        rcases Int.lt_trichotomy ((xs.getD k 0 : Nat) : Int) ((ys.getD k 0 : Nat) : Int) with ho | ho | ho
        · have hcall := Lib.hid fun W => compareU32_lt _ _ W ho
          have HO := Lib.hid ho
          clear ho
          go_wp2_with fail
          go_quiet ((go_at_call 31; exact quiet_add_left (hcall.out _)))
          go_wp2
          go_ret
          refine ⟨?_, (Below.refl _ _).of_drewN _⟩
          rw [cmpI_of_lt (val_lt_of 1000000000 (by omega) xs ys GX.out k (fun j hj => hall.out j hj) (by have := HO.out; omega))]
          rfl
        · have hcall := Lib.hid fun W => compareU32_eq _ _ W ho
          have HO := Lib.hid ho
          clear ho
          go_wp2_with fail
          go_quiet ((go_at_call 31; exact quiet_add_left (hcall.out _)))
          go_wp2
          go_roundw
          case rel =>
            refine ⟨k, _, by omega, rfl, rfl, fun j hj => ?_⟩
            rcases Nat.eq_or_lt_of_le hj with rfl | hj
            · have := HO.out; omega
            · exact hall.out j hj
          case measure => simp [intOf]
        · have hcall := Lib.hid fun W => compareU32_gt _ _ W ho
          have HO := Lib.hid ho
          clear ho
          go_wp2_with fail
          go_quiet ((go_at_call 31; exact quiet_add_left (hcall.out _)))
          go_wp2
          go_ret
          refine ⟨?_, (Below.refl _ _).of_drewN _⟩
          rw [cmpI_of_gt (val_lt_of 1000000000 (by omega) ys xs GY.out k (fun j hj => (hall.out j hj).symm) (by have := HO.out; omega))]
          rfl
  · have hbs : ((tz ys : Nat) : Int) < ((tz xs : Nat) : Int) := by omega
    have hfin := Lib.hid (cmpI_of_gt (val_lt_of_tz 1000000000 (by omega) ys xs GY.out hc))
    go_enter Try.func22, Try.ntmps22
    go_wp2_with fail
    refine (size_c A n c xs w H.out).mono ?_
    rintro e w' ⟨rfl, rfl⟩
    go_wp2_with fail
    refine (size_c A' n' c' ys w H'.out).mono ?_
    rintro e w' ⟨rfl, rfl⟩
    go_wp2_with fail
    refine (compareInt_c _ _ w).mono ?_
    rintro e w' ⟨rfl, rfl⟩
    go_wp2
    go_ret
    exact ⟨by rw [hfin.out]; rfl, Below.refl _ _⟩
end Go.Proofs.Ytmfcjjjkndfojaa
