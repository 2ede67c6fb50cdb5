/-
  KC: Nat1, Nat2, Nat3, Nat4, Mul1, Mul2.
-/
import Derived.Test.YtijalgngcbifgaaDoorKA
/- Nat1 -/
namespace Go.Proofs.YtijalgngcbifgaaDoor
open Go.RowKit
set_option maxHeartbeats 400000 in
theorem size_c (A : Option Addr) (n c : Nat) (xs : List Nat) (w : World) (h : Limbs w A n xs) :
    Calls Tryd.prog 48 #[.slice A n c] w fun e w' => e = .returned (.int .i64 (tz xs : Nat)) ∧ w = w' := by
  have hn := h.2.1
  have hl := Lib.hid h.len
  have H := Lib.hid h
  clear h
  go_enter Tryd.func48, Tryd.ntmps48
  go_wp2
  go_loop [3] (fun i => ∃ k : Nat, k ≤ n ∧ i = .int .i64 k ∧ ∀ j, k ≤ j → xs.getD j 0 = 0) (fun i => (intOf i).toNat)
  case atStart => exact ⟨n, Nat.le_refl _, rfl, fun j hj => by rw [List.getD, List.getElem?_eq_none (by rw [hl.out]; exact hj)]; rfl⟩
  case round =>
    obtain ⟨k, hk, rfl, hall0⟩ := hrel
    have hall := Lib.hid hall0
    clear hall0
    rcases k with _ | k
    · go_wp2
      go_ret
      refine ⟨?_, rfl⟩
      rw [tz_eq xs 0 hall.out (fun h => absurd h (by omega))]
      rfl
    · obtain ⟨ad, rfl, hb, hc, hx⟩ := H.out.at_ (k := k) (by omega)
      go_wp2
      · have hz : ((xs[k]?.getD 0 : Nat) : Int) == 0 := by assumption
        go_round
        case rel =>
          refine ⟨k, by omega, rfl, fun j hj => ?_⟩
          rcases Nat.eq_or_lt_of_le hj with rfl | hj
          · rw [List.getD]; simpa using hz
          · exact hall.out j hj
        case measure => simp [intOf]
      · have hz : (((xs[k]?.getD 0 : Nat) : Int) == 0) = false := by assumption
        go_ret
        refine ⟨?_, rfl⟩
        rw [tz_eq xs (k + 1) hall.out (fun _ => by rw [List.getD]; simpa using hz)]
        rfl
set_option maxHeartbeats 400000 in
theorem compareInt_c (x y : Int) (w : World) :
    Calls Tryd.prog 34 #[.int .i64 x, .int .i64 y] w fun e w' => e = .returned (.int .i64 (if x < y then -1 else if y < x then 1 else 0)) ∧ w = w' := by
  rcases Int.lt_trichotomy x y with h | h | h
  · rw [if_pos h]
    go_enter Tryd.func34, Tryd.ntmps34
    go_wp2
    go_ret
    exact ⟨rfl, rfl⟩
  · subst h
    rw [if_neg (by omega), if_neg (by omega)]
    go_enter Tryd.func34, Tryd.ntmps34
    go_wp2
    go_ret
    exact ⟨rfl, rfl⟩
  · rw [if_neg (by omega), if_pos h]
    go_enter Tryd.func34, Tryd.ntmps34
    go_wp2
    go_ret
    exact ⟨rfl, rfl⟩
set_option maxHeartbeats 400000 in
theorem trim_c (A : Option Addr) (n c : Nat) (xs : List Nat) (w : World) (h : Limbs w A n xs) (hn : n ≤ 1000000000) :
    Calls Tryd.prog 38 #[.slice A n c] w fun e w' => ∃ A' m c', e = .returned (.slice A' m c') ∧ OwnS w' w.heap.size A' m c' (trim xs) ∧ Below w.heap.size w w' := by
  obtain ⟨i0, hi, hz0, hz1, hz2⟩ := info_parts u32_info
  have hl := Lib.hid h.len
  have htz := tz_le xs
  rw [hl.out] at htz
  have H := Lib.hid h
  clear h
  go_enter Tryd.func38, Tryd.ntmps38
  go_wp2_with fail
  refine (size_c A n c xs w H.out).mono ?_
  rintro e w' ⟨rfl, rfl⟩
  go_wp2_with (at_make; refine wpList_make_full _ rfl _ _ 28 rfl w.heap.size 46 i0 (.int .u32 0) 1 Tryd.underlying28 hi hz0 hz1 _ _ _ _ (tz xs) rfl rfl rfl rfl ?b2 ?b3 (Nat.le_refl _) ?_)
  case b2 => rw [hz2]; omega
  case b3 => unfold maxLen; omega
  intro w1 hown hgrow
  rw [made_u32] at hown
  have hb1 : Below w.heap.size w w1 := (Below.refl _ _).grown hgrow (Nat.le_refl _) (fun k hk => by cases hk)
  have H1 := Lib.hid (H.out.below hb1)
  have HB := Lib.hid (own_blk hown)
  clear hown hgrow
  go_wp2_with (refine wpList_copy_splice rfl (.tmp 7) (.tmp 8) _ _ rfl 46 Tryd.underlying28 (by rw [hi]; simp [hz1]) _ A _ (tz xs) n c rfl rfl w.heap.size 0 (u32s (List.replicate (tz xs) 0)) 46 HB.out.1 (u32s (xs.take (tz xs))) ?c1 ?c2 ?c3 (u32_one _) w.heap.size w hb1 (Nat.le_refl _) ?_)
  case c1 => simp only [u32s_length, List.length_take, hl.out]; exact Nat.min_comm _ _
  case c2 =>
    intro hp
    obtain ⟨ad, e1, hb, hcell⟩ := H1.out.1.2 (by simp [u32s_length, hl.out] at hp; omega)
    refine ⟨ad, e1, fun j v hv => hcell j v ?_⟩
    rw [u32s_get] at hv ⊢
    rw [List.getElem?_take] at hv
    split at hv
    · exact hv
    · simp at hv
  case c3 => simp [u32s_length, hl.out]; omega
  intro w2 hh hb2
  rw [splice_all _ _ (by simp [u32s_length, hl.out]; omega)] at hh
  go_wp2
  go_ret
  refine ⟨_, _, _, rfl, ⟨?_, by omega, fun x hx => H.out.2.2 x (List.mem_of_mem_take hx)⟩, hb2⟩
  exact own_of_blk hh.out (Nat.le_refl _) (by simp [u32s_length, trim_length]) (by unfold maxLen; omega)
end Go.Proofs.YtijalgngcbifgaaDoor
/- Nat2 -/
namespace Go.Proofs.YtijalgngcbifgaaDoor
open Go.RowKit
set_option maxHeartbeats 400000 in
theorem same_c (A A' : Option Addr) (n c n' c' : Nat) (xs ys : List Nat) (w : World) (h : Limbs w A n xs) (h' : Limbs w A' n' ys) :
    Calls Tryd.prog 17 #[.slice A n c, .slice A' n' c'] w fun e w' => e = .returned (.bool (decide (xs = ys))) ∧ Below w.heap.size w w' := by
  have hn := h.2.1
  have hn' := h'.2.1
  have hl := Lib.hid h.len
  have hl' := Lib.hid h'.len
  have H := Lib.hid h
  have H' := Lib.hid h'
  clear h h'
  by_cases hne : n = n'
  · subst hne
    go_enter Tryd.func17, Tryd.ntmps17
    go_wp2
    go_loopw [5] (fun i wr => ∃ k m : Nat, k ≤ n ∧ i = .int .i64 k ∧ wr = w.drewN m ∧ ∀ j, j < k → xs.getD j 0 = ys.getD j 0) (fun i _ => n - (intOf i).toNat)
    case atStart => exact ⟨0, 0, Nat.zero_le _, rfl, rfl, fun j hj => absurd hj (by omega)⟩
    case round =>
      obtain ⟨k, m, hk, rfl, rfl, hall0⟩ := hrel
      have hall := Lib.hid hall0
      clear hall0
      by_cases hlt : k < n
      · obtain ⟨ad, rfl, hb, hc, hx⟩ := H.out.at_ hlt
        obtain ⟨ad', rfl, hb', hc', hx'⟩ := H'.out.at_ hlt
        go_wp2
        go_quiet (fail)
        go_wp2
        · have hd : (((xs[k]?.getD 0 : Nat) : Int) != ((ys[k]?.getD 0 : Nat) : Int)) = true := by assumption
          go_ret
          refine ⟨?_, ((Below.refl _ _).of_drewN _).of_drewN _⟩
          have : decide (xs = ys) = false := by
            simp only [decide_eq_false_iff_not]
            rintro rfl
            simp at hd
          rw [this]; rfl
        · have hd : (((xs[k]?.getD 0 : Nat) : Int) != ((ys[k]?.getD 0 : Nat) : Int)) = false := by assumption
          go_roundw
          case rel =>
            refine ⟨k + 1, _, by omega, by go_num, rfl, fun j hj => ?_⟩
            rcases Nat.lt_or_ge j k with hjk | hjk
            · exact hall.out j hjk
            · obtain rfl : j = k := by omega
              rw [List.getD, List.getD]
              have : ((xs[j]?.getD 0 : Nat) : Int) = ((ys[j]?.getD 0 : Nat) : Int) := by simpa using hd
              omega
          case measure => simp [intOf]; omega
      · go_wp2
        go_ret
        refine ⟨?_, (Below.refl _ _).of_drewN _⟩
        have : decide (xs = ys) = true := by
          simp only [decide_eq_true_eq]
          exact list_ext_getD (by rw [hl.out, hl'.out]) (fun j hj => hall.out j (by rw [hl.out] at hj; omega))
        rw [this]; rfl
  · have hb : (((n : Nat) : Int) != (n' : Int)) = true := by simp; omega
    go_enter Tryd.func17, Tryd.ntmps17
    go_wp2
    go_ret
    refine ⟨?_, Below.refl _ _⟩
    have : decide (xs = ys) = false := by
      simp only [decide_eq_false_iff_not]
      intro e; apply hne; rw [← hl.out, ← hl'.out, e]
    rw [this]; rfl
/-- What Cmp answers. -/
def cmpI (a b : Nat) : Int := if a < b then -1 else if b < a then 1 else 0
theorem cmpI_of_lt {a b : Nat} (h : a < b) : cmpI a b = -1 := by simp [cmpI, h]
theorem cmpI_of_gt {a b : Nat} (h : b < a) : cmpI a b = 1 := by rw [cmpI, if_neg (by omega), if_pos h]
theorem cmpI_of_eq {a b : Nat} (h : a = b) : cmpI a b = 0 := by rw [cmpI, if_neg (by omega), if_neg (by omega)]
end Go.Proofs.YtijalgngcbifgaaDoor
/- Nat3 -/
namespace Go.Proofs.YtijalgngcbifgaaDoor
open Go.RowKit
/-- One figure written at place i. -/
theorem val_take_set (b : Nat) (ys : List Nat) (i x : Nat) (h : i < ys.length) : val b ((ys.set i x).take (i + 1)) = val b (ys.take i) + b ^ i * x := by
  rw [val_take_succ]
  simp [List.getD, h, List.take_set_of_le]
theorem u32s_set (ys : List Nat) (i x : Nat) : u32s (ys.set i x) = (u32s ys).set i (.int .u32 (x : Int)) := by simp [u32s, List.map_set]
/-- A round of adding. -/
theorem add_step (b p v P Q X Y cr l cr' : Nat) (hv : v + p * cr = P + Q) (h : X + Y + cr = l + b * cr') : v + p * l + p * b * cr' = (P + p * X) + (Q + p * Y) := by
  have h1 : p * (X + Y + cr) = p * (l + b * cr') := by rw [h]
  simp only [Nat.mul_add, ← Nat.mul_assoc] at h1
  omega
end Go.Proofs.YtijalgngcbifgaaDoor
/- Nat4 -/
namespace Go.Proofs.YtijalgngcbifgaaDoor
open Go.RowKit
/-- A round of subtracting. -/
theorem sub_step (b p v P Q X Y br l br' : Nat) (hv : v + Q = P + p * br) (h : X + b * br' = l + Y + br) : v + p * l + (Q + p * Y) = (P + p * X) + p * b * br' := by
  have h1 : p * (X + b * br') = p * (l + Y + br) := by rw [h]
  simp only [Nat.mul_add, ← Nat.mul_assoc] at h1
  omega
theorem sub_last (z y x p br : Nat) (h1 : z + y = x + p * br) (h2 : z < p) (h3 : y ≤ x) (h4 : br ≤ 1) : z = x - y := by
  rcases Nat.eq_zero_or_pos br with h | h
  · subst h; omega
  · obtain rfl : br = 1 := by omega
    omega
end Go.Proofs.YtijalgngcbifgaaDoor
/- Mul1 -/
namespace Go.Proofs.YtijalgngcbifgaaDoor
open Go.RowKit
theorem reads_at {w : World} {B n k : Nat} {A : Option Addr} {xs : List Nat} (h : Reads w B 1 A n (u32s xs)) (hk : k < n) : ∃ ad, A = some ad ∧ ad.block < B ∧ w.cell? (ad.add k) = some (.int .u32 ((xs.getD k 0 : Nat) : Int)) := by
  obtain ⟨ad, u, e, hb, hx, hc⟩ := h.at_ hk
  have hl : k < xs.length := by have := h.1; simp [u32s_length] at this; omega
  rw [u32s_get, List.getElem?_eq_getElem hl] at hx
  simp at hx
  subst hx
  refine ⟨ad, e, hb, ?_⟩
  rw [hc]; simp [List.getD, List.getElem?_eq_getElem hl]
theorem own_at {w : World} {base g N : Nat} {zs : List Nat} (h : w.ownsRow base 46 1 (.slice (some ⟨g, 0, none⟩) N N) N (u32s zs)) {j : Nat} (hj : j < N) : w.cell? ⟨g, j, none⟩ = some (.int .u32 ((zs.getD j 0 : Nat) : Int)) := by
  have hl : zs.length = N := by have := h.1; simpa [u32s_length] using this
  rw [h.cellAt j (by omega), u32s_get, List.getElem?_eq_getElem (by omega)]
  simp [List.getD, List.getElem?_eq_getElem (show j < zs.length by omega)]
theorem limb_prod {X y : Nat} (hx : X < 1000000000) (hy : y < 1000000000) : X * y ≤ 999999998000000001 :=
  Nat.mul_le_mul (show X ≤ 999999999 by omega) (show y ≤ 999999999 by omega)
end Go.Proofs.YtijalgngcbifgaaDoor
/- Mul2 -/
namespace Go.Proofs.YtijalgngcbifgaaDoor
open Go.RowKit
/-- A row of the call's own, trimmed, is the answer. -/
theorem trim_own (g N : Nat) (us : List Nat) (V : Nat) (w0 w : World) (hown : w.ownsRow g 46 1 (.slice (some ⟨g, 0, none⟩) N N) N (u32s us)) (hN : N ≤ 1000000000) (hb : Below g w0 w) (hg : w0.heap.size = g)
    (hu : ∀ z ∈ us, z < 1000000000) (hv : val 1000000000 us = V) :
    Calls Tryd.prog 38 #[.slice (some ⟨g, 0, none⟩) N N] w fun e w' => ∃ A' m c', e = .returned (.slice A' m c') ∧ OwnS w' g A' m c' (digs 1000000000 V) ∧ Below g w0 w' := by
  have hlim : OwnS w g (some ⟨g, 0, none⟩) N N us := ⟨hown, by omega, fun z hz => by have := hu z hz; omega⟩
  refine (trim_c _ _ _ us w hlim.limbs (by omega)).mono ?_
  rintro e w' ⟨A1, m1, c1, rfl, ho1, hb1⟩
  have hsz : g ≤ w.heap.size := by have := hb.size; omega
  rw [trim_eq_digs 1000000000 (by omega) _ hu, hv] at ho1
  exact ⟨A1, m1, c1, rfl, ho1.weaken hsz, hb.trans (hb1.mono hsz)⟩
end Go.Proofs.YtijalgngcbifgaaDoor
