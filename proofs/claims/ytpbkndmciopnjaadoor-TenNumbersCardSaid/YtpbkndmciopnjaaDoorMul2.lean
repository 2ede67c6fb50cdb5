import Derived.Test.YtpbkndmciopnjaaDoorMul1
namespace Go.Proofs.YtpbkndmciopnjaaDoor
open Go.RowKit
/-- A row of the call's own, trimmed, is the answer. -/
theorem trim_own (g N : Nat) (us : List Nat) (V : Nat) (w0 w : World) (hown : w.ownsRow g 39 1 (.slice (some ⟨g, 0, none⟩) N N) N (u32s us)) (hN : N ≤ 1000000000) (hb : Below g w0 w) (hg : w0.heap.size = g)
    (hu : ∀ z ∈ us, z < 1000000000) (hv : val 1000000000 us = V) :
    Calls Tryd.prog 22 #[.slice (some ⟨g, 0, none⟩) N N] w fun e w' => ∃ A' m c', e = .returned (.slice A' m c') ∧ OwnS w' g A' m c' (digs 1000000000 V) ∧ Below g w0 w' := by
  have hlim : OwnS w g (some ⟨g, 0, none⟩) N N us := ⟨hown, by omega, fun z hz => by have := hu z hz; omega⟩
  refine (trim_c _ _ _ us w hlim.limbs (by omega)).mono ?_
  rintro e w' ⟨A1, m1, c1, rfl, ho1, hb1⟩
  have hsz : g ≤ w.heap.size := by have := hb.size; omega
  rw [trim_eq_digs 1000000000 (by omega) _ hu, hv] at ho1
  exact ⟨A1, m1, c1, rfl, ho1.weaken hsz, hb.trans (hb1.mono hsz)⟩
set_option maxHeartbeats 1000000 in
set_option maxRecDepth 100000 in
theorem small_c (A : Option Addr) (n c : Nat) (xs : List Nat) (y z : Nat) (w : World) (h : Limbs w A n xs) (gx : ∀ x ∈ xs, x < 1000000000) (hn : n ≤ 900000000) (hy : y < 1000000000) (hz : z < 1000000000) :
    Calls Tryd.prog 27 #[.slice A n c, .int .u32 (y : Int), .int .u32 (z : Int)] w fun e w' => ∃ A' m c', e = .returned (.slice A' m c') ∧ OwnS w' w.heap.size A' m c' (digs 1000000000 (val 1000000000 xs * y + z)) ∧ Below w.heap.size w w' := by
  obtain ⟨i0, hi, hz0, hz1, hz2⟩ := info_parts u32_info
  have H := Lib.hid h
  have GX := Lib.hid gx
  clear h gx
  go_enter Tryd.func27, Tryd.ntmps27
  go_wp2_with (at_make; refine wpList_make_full _ rfl _ _ 22 rfl w.heap.size 39 i0 (.int .u32 0) 1 Tryd.underlying22 hi hz0 hz1 _ _ _ _ (n + 1) rfl rfl ?b0 ?b1 ?b2 ?b3 (Nat.le_refl _) ?_)
  case b0 => omega
  case b1 => omega
  case b2 => rw [hz2]; omega
  case b3 => unfold maxLen; omega
  intro w1 hown hgrow
  rw [made_u32] at hown
  have hb1 : Below w.heap.size w w1 := (Below.refl _ _).grown hgrow (Nat.le_refl _) (fun k hk => by cases hk)
  have W0 := Lib.hid hown
  have HB1 := Lib.hid hb1
  have hR := Lib.hid (H.out.1.below hb1)
  generalize hg : w.heap.size = g at W0 HB1 hR
  have Hg := Lib.hid hg
  have hcell : w1.cell? ⟨g, 0, none⟩ = some (.int .u32 0) := own_at W0.out (j := 0) (by omega)
  have hfr : w1.frozen? ⟨g, 0, none⟩ = false := W0.out.frozenAt 0
  clear hown hb1 hgrow hg
  go_wp2_with fail
  have hown2 := (W0.out.stored 0 (.int .u32 (z : Int))).1
  rw [← u32s_set] at hown2
  have hst := val_set 1000000000 (List.replicate (n + 1) 0) 0 z (by simp)
  rw [val_replicate, getD_replicate, Nat.pow_zero, Nat.one_mul, Nat.one_mul, Nat.zero_add, Nat.add_zero] at hst
  have gz : ∀ u ∈ (List.replicate (n + 1) 0).set 0 z, u < 1000000000 := by
    intro u hu
    rcases List.mem_or_eq_of_mem_set hu with hu | hu
    · rw [List.eq_of_mem_replicate hu]; omega
    · omega
  have hz00 : n = 0 ∨ ((List.replicate (n + 1) 0).set 0 z).getD (0 + n) 0 = 0 := by
    rcases Nat.eq_zero_or_pos n with h0 | h0
    · exact .inl h0
    · refine .inr ?_
      rw [getD_set_ne _ _ _ _ (by omega), getD_replicate]
  have CC := addTimes_c g 0 (n + 1) (n + 1) _ A n c xs y _ (by omega) (by omega) (by omega) hown2 (hR.out.setCell (Nat.le_refl _) _) GX.out gz hy hz00
  rw [hst] at CC
  have HB2 := Lib.hid (HB1.out.setCell (p := ⟨g, 0, none⟩) (Nat.le_refl _) (.int .u32 (z : Int)))
  have HC := Lib.hid CC
  clear CC hst gz hz00 hown2
  refine HC.out.mono ?_
  rintro e w3 ⟨us, rfl, hown3, hb3, hul, hub, hval, -⟩
  have HO3 := Lib.hid hown3
  have HB3 := Lib.hid (HB2.out.trans hb3)
  have HUB := Lib.hid hub
  have HV := Lib.hid (show val 1000000000 us = val 1000000000 xs * y + z by rw [hval, Nat.pow_zero, Nat.one_mul, Nat.mul_comm y, Nat.add_comm])
  clear hown3 hb3 hub hval hul HC hcell hfr
  go_wp2_with fail
  refine (trim_own g (n + 1) us _ w w3 HO3.out (by omega) HB3.out Hg.out HUB.out HV.out).mono ?_
  rintro e w4 ⟨A4, m4, c4, rfl, ho, hb⟩
  have HO := Lib.hid ho
  have HB := Lib.hid hb
  clear ho hb
  go_wp2
  go_ret
  exact ⟨A4, m4, c4, rfl, by rw [Hg.out]; exact HO.out, by rw [Hg.out]; exact HB.out⟩
end Go.Proofs.YtpbkndmciopnjaaDoor
