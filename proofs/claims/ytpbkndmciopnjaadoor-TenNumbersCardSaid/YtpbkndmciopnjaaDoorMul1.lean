import Derived.Test.YtpbkndmciopnjaaDoorNat4
import Derived.Test.YtpbkndmciopnjaaDoorMulMath
namespace Go.Proofs.YtpbkndmciopnjaaDoor
open Go.RowKit
theorem reads_at {w : World} {B n k : Nat} {A : Option Addr} {xs : List Nat} (h : Reads w B 1 A n (u32s xs)) (hk : k < n) : ∃ ad, A = some ad ∧ ad.block < B ∧ w.cell? (ad.add k) = some (.int .u32 ((xs.getD k 0 : Nat) : Int)) := by
  obtain ⟨ad, u, e, hb, hx, hc⟩ := h.at_ hk
  have hl : k < xs.length := by have := h.1; simp [u32s_length] at this; omega
  rw [u32s_get, List.getElem?_eq_getElem hl] at hx
  simp at hx
  subst hx
  refine ⟨ad, e, hb, ?_⟩
  rw [hc]; simp [List.getD, List.getElem?_eq_getElem hl]
theorem own_at {w : World} {base g N : Nat} {zs : List Nat} (h : w.ownsRow base 39 1 (.slice (some ⟨g, 0, none⟩) N N) N (u32s zs)) {j : Nat} (hj : j < N) : w.cell? ⟨g, j, none⟩ = some (.int .u32 ((zs.getD j 0 : Nat) : Int)) := by
  have hl : zs.length = N := by have := h.1; simpa [u32s_length] using this
  rw [h.cellAt j (by omega), u32s_get, List.getElem?_eq_getElem (by omega)]
  simp [List.getD, List.getElem?_eq_getElem (show j < zs.length by omega)]
theorem limb_prod {X y : Nat} (hx : X < 1000000000) (hy : y < 1000000000) : X * y ≤ 999999998000000001 :=
  Nat.mul_le_mul (show X ≤ 999999999 by omega) (show y ≤ 999999999 by omega)
set_option maxHeartbeats 1000000 in
set_option maxRecDepth 100000 in
theorem addTimes_c (g off L N : Nat) (zs : List Nat) (A : Option Addr) (m c : Nat) (xs : List Nat) (y : Nat) (w : World) (hN : off + L = N) (hN2 : N ≤ 1000000000) (hm : m < L)
    (hown : w.ownsRow g 39 1 (.slice (some ⟨g, 0, none⟩) N N) N (u32s zs)) (hR : Reads w g 1 A m (u32s xs)) (gx : ∀ x ∈ xs, x < 1000000000) (gz : ∀ z ∈ zs, z < 1000000000) (hy : y < 1000000000)
    (hz0 : m = 0 ∨ zs.getD (off + m) 0 = 0) :
    Calls Tryd.prog 35 #[.slice (some ⟨g, off, none⟩) L L, .slice A m c, .int .u32 (y : Int)] w fun e w' =>
      ∃ zs' : List Nat, e = .returned (.tuple #[]) ∧ w'.ownsRow g 39 1 (.slice (some ⟨g, 0, none⟩) N N) N (u32s zs') ∧ Below g w w' ∧ zs'.length = N ∧ (∀ z ∈ zs', z < 1000000000) ∧
        val 1000000000 zs' = val 1000000000 zs + 1000000000 ^ off * (y * val 1000000000 xs) ∧ ∀ j, off + m < j → zs'.getD j 0 = zs.getD j 0 := by
  have hzl : zs.length = N := by have := hown.1; simpa [u32s_length] using this
  have hxl : xs.length = m := by have := hR.1; simpa [u32s_length] using this
  have HZL := Lib.hid hzl
  have HXL := Lib.hid hxl
  have HO0 := Lib.hid hown
  have HR := Lib.hid hR
  have GX := Lib.hid gx
  have GZ := Lib.hid gz
  have HZ0 := Lib.hid hz0
  clear hzl hxl hown hR gx gz hz0
  have HN := Lib.hid hN
  have hNle : off + L ≤ 1000000000 := by omega
  clear hN hN2
  go_enter Tryd.func35, Tryd.ntmps35
  go_wp2
  go_loopw [6, 7, 8, 9, 12] (fun cy _ _ _ i wr => ∃ (k cr : Nat) (us : List Nat), k ≤ m ∧ i = .int .i64 k ∧ cy = .int .u64 (cr : Int) ∧ cr < 1000000000 ∧ (k = 0 → cr = 0) ∧
      wr.ownsRow g 39 1 (.slice (some ⟨g, 0, none⟩) N N) N (u32s us) ∧ Below g w wr ∧ us.length = N ∧ (∀ z ∈ us, z < 1000000000) ∧
      val 1000000000 us + 1000000000 ^ (off + k) * cr = val 1000000000 zs + 1000000000 ^ off * (y * val 1000000000 (xs.take k)) ∧ (∀ j, off + k ≤ j → us.getD j 0 = zs.getD j 0)) (fun _ _ _ _ i _ => m - (intOf i).toNat)
  case atStart => exact ⟨0, 0, zs, Nat.zero_le _, rfl, rfl, by omega, fun _ => rfl, HO0.out, Below.refl _ _, HZL.out, GZ.out, by simp [val], fun _ _ => rfl⟩
  case round =>
    obtain ⟨k, cr, us, hk, rfl, rfl, hcr, hk0, hown0, hbw0, hul0, hub0, hval0, hzz0⟩ := hrel
    have HK0 := Lib.hid hk0
    have HO := Lib.hid hown0
    have HBW := Lib.hid hbw0
    have HUL := Lib.hid hul0
    have HUB := Lib.hid hub0
    have HV := Lib.hid hval0
    have HZ := Lib.hid hzz0
    have hcell : wr.cell? ⟨g, off + k, none⟩ = some (.int .u32 ((us.getD (off + k) 0 : Nat) : Int)) := own_at HO.out (by have := HN.out; omega)
    have hfr : wr.frozen? ⟨g, off + k, none⟩ = false := HO.out.frozenAt (off + k)
    have hZ1 := getD_lt 1000000000 (by omega) us hub0 (off + k)
    have hst := Lib.hid fun l => val_set 1000000000 us (off + k) l (by rw [hul0, ← HN.out]; omega)
    have hZz := Lib.hid (hzz0 (off + k) (Nat.le_refl _))
    clear hk0 hown0 hbw0 hul0 hub0 hval0 hzz0
    generalize us.getD (off + k) 0 = Z at hcell hZ1 hst hZz
    by_cases hlt : k < m
    · obtain ⟨ad, rfl, hb, hc⟩ := reads_at (HR.out.below HBW.out) hlt
      have hX1 := getD_lt 1000000000 (by omega) xs GX.out k
      have hv1 := Lib.hid (val_take_succ 1000000000 xs k)
      generalize xs.getD k 0 = X at hc hX1 hv1
      have hp := limb_prod hX1 hy
      have hpI : (X : Int) * (y : Int) ≤ 999999998000000001 := by rw [← Int.natCast_mul]; omega
      have hpI0 : 0 ≤ (X : Int) * (y : Int) := by rw [← Int.natCast_mul]; omega
      go_wp2
      go_roundw
      case rel =>
        have hd : (X * y + Z + cr) / 1000000000 < 1000000000 := by omega
        have hml : (X * y + Z + cr) % 1000000000 < 1000000000 := by omega
        have hcast : (X : Int) * (y : Int) = ((X * y : Nat) : Int) := by simp
        refine ⟨k + 1, (X * y + Z + cr) / 1000000000, us.set (off + k) ((X * y + Z + cr) % 1000000000), by omega, by go_num, by rw [hcast]; congr 1, hd, by omega, ?_, HBW.out.setCell (Nat.le_refl _) _, by simpa using HUL.out, ?_, ?_, ?_⟩
        · rw [u32s_set]
          rw [hcast]
          exact (HO.out.stored (off + k) _).1
        · intro z hz
          rcases List.mem_or_eq_of_mem_set hz with hz | hz
          · exact HUB.out z hz
          · rw [hz]; exact hml
        · rw [hv1.out]
          exact row_step 1000000000 off k _ y X Z cr _ _ _ _ _ (hst.out _) HV.out (by omega)
        · intro j hj
          rw [getD_set_ne _ _ _ _ (by omega)]
          exact HZ.out j (by omega)
      case measure => simp [intOf]; omega
    · obtain rfl : k = m := by omega
      have hzs : Z + cr < 1000000000 := by
        rcases HZ0.out with h0 | h0
        · have := HK0.out h0; omega
        · have := hZz.out; omega
      go_wp2
      go_end0
      refine ⟨us.set (off + k) (Z + cr), rfl, ?_, HBW.out.setCell (Nat.le_refl _) _, by simpa using HUL.out, ?_, ?_, ?_⟩
      · rw [u32s_set]
        exact (HO.out.stored (off + k) _).1
      · intro z hz
        rcases List.mem_or_eq_of_mem_set hz with hz | hz
        · exact HUB.out z hz
        · rw [hz]; exact hzs
      · have hv := HV.out
        rw [List.take_of_length_le (by rw [HXL.out]; exact Nat.le_refl _)] at hv
        exact row_end 1000000000 off k _ y Z cr _ _ _ (hst.out _) hv
      · intro j hj
        rw [getD_set_ne _ _ _ _ (by omega)]
        exact HZ.out j (by omega)
end Go.Proofs.YtpbkndmciopnjaaDoor
